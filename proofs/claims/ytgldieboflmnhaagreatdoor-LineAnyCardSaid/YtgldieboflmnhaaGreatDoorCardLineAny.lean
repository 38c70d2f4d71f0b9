/- belfrylaw6.LineAny: for every input the law returns true, and each argument reads behind the call as it read before. Listed tables of Go's library hold what the program's text lays (the card ties them). -/
import Derived.Test.YtgldieboflmnhaaGreatDoorRows
import Derived.Test.YtgldieboflmnhaaGreatDoorCards
import Derived.Test.YtgldieboflmnhaaGreatDoorTie
import Derived.Test.YtgldieboflmnhaaGreatDoorLawLineAny
import Derived.Test.YtgldieboflmnhaaGreatDoorOpenL
import Derived.Test.YtgldieboflmnhaaGreatDoorFrame6
import Derived.Lib.SmallJoins
import Derived.Carry
namespace Go.Proofs.YtgldieboflmnhaaGreatDoor
open Go Go.Proofs Go.RowKit Go.Shelf Go.Lib Go.ChangeShapes Go.WideShapes Go.ChangeAt Go.Joins
namespace LawLineAny
theorem laidOut : laidOutB Tryz.prog = true := by kernel_rfl

set_option maxRecDepth 100000 in
theorem lifted (os : Os) (started : os.Started) (H : Type) (enc : TypeId × Value → H) :
    ReturnsInHanded {} Tryz.checked os 3 .any (fun w args => (Rows.lineAnySpec.pre enc Tryz.prog Tryz.f3 [] false w args ∧ laidMetH Tryz.prog Rows.lineAnyRow.laid w) ∧ sizedMet enc Tryz.prog Tryz.f3 (OpenSpec.ofChange Rows.lineAnySpec) false w args)
      (Rows.lineAnySpec.post enc Tryz.prog Tryz.f3 false true false false) := by
  refine returnsInHanded_of_change_and (C := Tryz.checked) (X := fun w _ => laidMetH Tryz.prog Rows.lineAnyRow.laid w) (fun _ _ _ hh h => h.of_heap hh) own started (by kernel_rfl) Tryz.func3
    (ChangeSpec.witness_shaped (enc := enc) (C := Tryz.checked) (os := os) (X := fun w _ => laidMetH Tryz.prog Rows.lineAnyRow.laid w) false (World.laidAll Tryz.prog os Rows.lineAnyRow.laid) #[.agg #[.slice none 0 0, .int .i64 0, .int .i64 0, .int .i64 0, .int .i64 0], .agg #[.slice none 0 0, .int .i64 0, .int .i64 0, .int .i64 0, .int .i64 0]] 8 (World.laidAll_os _ _ _)
      (World.shaped_of_ZipB (by kernel_rfl) (by kernel_rfl)) (by kernel_rfl) (by kernel_rfl) (by kernel_rfl)
      (by rw [MakeChecks.laidMetH_plain _ _ _ (by kernel_rfl)]; exact laidMet_laidAll _ (by kernel_rfl) (by kernel_rfl))) ?_
  intro W base args ds gs before hval0 hW _ _ hL hsz
  have hval : ∀ (j : Nat) t v, Tryz.f3.params[j]? = some t → args[j]? = some v → Value.okWide Tryz.prog W .any base t v := hval0
  have hW' := hW
  obtain ⟨p, q, hA0, hV, rfl, _, _⟩ := hW
  have hA : DataW.TrodAll enc Tryz.prog W 0 (fun _ => true) true Tryz.f3.params.toList args.toList ds p := hA0
  rw [Tryz.params3] at hA hval
  obtain ⟨v0, vs0, d0, ds0, p0, q0, hargs, rfl, rfl, h0, r0⟩ := trodAll_cons hA
  obtain ⟨v1, vs1, d1, ds1, p1, q1, rfl, rfl, rfl, h1, r1⟩ := trodAll_cons r0
  obtain ⟨rfl, rfl, rfl⟩ := trodAll_nil r1
  obtain rfl : args = #[v0, v1] := by apply Array.toList_inj.1; simpa using hargs
  obtain ⟨rfl, rfl⟩ := trodVars_none hV
  have s0 := h0
  obtain ⟨sa0, sl0, sc0, m10, m20, m30, m40, rfl, n10, n20, n30, n40, fu0, yy0, hf0⟩ := samp_open (hval 0 25 v0 rfl rfl) h0
  obtain ⟨zs0, zl0, zb0, L0⟩ := labsG_of_trod hf0
  have s1 := h1
  obtain ⟨sa1, sl1, sc1, m11, m21, m31, m41, rfl, n11, n21, n31, n41, fu1, yy1, hf1⟩ := samp_open (hval 1 25 v1 rfl rfl) h1
  obtain ⟨zs1, zl1, zb1, L1⟩ := labsG_of_trod hf1
  simp only [List.append_nil] at hW'
  rw [MakeChecks.laidMetH_plain _ _ _ (by kernel_rfl)] at hL
  have hT : Tab W := tab_of_reads (Lib.laidMet.reads hL (n := powName) (d := Rows.laid_internal_strconv_uint64pow10) (by simp only [Rows.lineAnyRow]; exact .tail _ (.tail _ (.head _))))
  have hE1 := var_of_reads (Lib.laidMet.reads hL (n := "strconv.ErrRange") (d := Rows.laid_strconv_ErrRange) (by simp only [Rows.lineAnyRow]; exact .tail _ (.tail _ (.tail _ (.tail _ (.head _)))))) rfl
  have hE2 := var_of_reads (Lib.laidMet.reads hL (n := "strconv.ErrSyntax") (d := Rows.laid_strconv_ErrSyntax) (by simp only [Rows.lineAnyRow]; exact .tail _ (.tail _ (.tail _ (.tail _ (.tail _ (.head _))))))) rfl
  refine (any_law sa0 sa1 sl0 sc0 sl1 sc1 zs0 zs1 zl0 zb0 zl1 zb1 m10 m20 m30 m40 m11 m21 m31 m41 n10 n20 n30 n40 W hT ⟨hE2, hE1⟩ L0 L1).mono fun e W' ⟨he, hb⟩ => ?_
  subst he
  exact ⟨_, rfl, _, _, _, [], _, [], hW', trodAll_mk1 (shut_bool Tryz.underlying4 _), (trodAll_mk2 (Below.trod laidOut (by kernel_rfl) (of_decide_eq_true (by kernel_rfl)) s0 hb (fun x hx => hW'.lt x (by (try simp only [List.mem_append]); first | exact hx | exact .inl hx | exact .inr hx | exact .inr (.inl hx) | exact .inr (.inr hx)))) (Below.trod laidOut (by kernel_rfl) (of_decide_eq_true (by kernel_rfl)) s1 hb (fun x hx => hW'.lt x (by (try simp only [List.mem_append]); first | exact hx | exact .inl hx | exact .inr hx | exact .inr (.inl hx) | exact .inr (.inr hx))))), rfl, hb.frame _, fun h => by cases h⟩

theorem holds : Rows.LineAnySaid :=
  OpenClaim.holds_of_wide 3 Tryz.f3 rfl rfl rfl rfl rfl rfl rfl ⟨rfl, rfl, rfl, rfl, rfl⟩ rfl rfl rfl rfl rfl (by kernel_rfl) Tryz.func3 (by kernel_rfl)
    (of_decide_eq_true (by kernel_rfl)) (by unfold Func.isWrapper; first | (rw [if_pos (by decide +kernel)]; kernel_rfl) | (rw [if_neg (by decide +kernel)]; exact ⟨rfl, rfl⟩))
    (fun os started H enc _ => lifted os started H enc)

theorem card_holds : Rows.LineAnyCardSaid :=
  Claim7.holds_tied_plain_at .later [] [.data, .data, .data, .data, .sentinel, .sentinel, .pinned] true (true, Rows.lineAnyCard.stood.harness.2) true holds (fun _ h => by cases h) (by kernel_rfl) (fun _ h => by cases h) lineAny_row_tie rfl ⟨rfl, rfl⟩ (by kernel_rfl) rfl
    (fun f fn hf hfn => by
      obtain rfl : f = 3 := Option.some.inj ((show Tryz.prog.funcNamed Rows.lineAnyRow.func = some 3 by kernel_rfl).symm.trans hf) |>.symm
      obtain rfl : fn = Tryz.f3 := (Option.some.inj (Tryz.func3.symm.trans hfn)).symm
      exact ⟨by kernel_rfl, fun j t ht => by
        rw [Tryz.params3] at ht
        have hm : t ∈ [25, 25] := by simpa using Array.mem_of_getElem? ht
        have hall : ([25, 25].all fun u => !Tryz.prog.wantsStandIn u) = true := by kernel_rfl
        exact (show Tryz.prog.wantsStandIn t = false by simpa using List.all_eq_true.1 hall t hm)⟩)
    (by kernel_rfl)
end LawLineAny
theorem lineAny_holds : Rows.LineAnyCardSaid := LawLineAny.card_holds
end Go.Proofs.YtgldieboflmnhaaGreatDoor
