/- belfrylaw1.WideNeg: for every input the law returns true, and each argument reads behind the call as it read before. Listed tables of Go's library hold what the program's text lays (the card ties them). -/
import Derived.Test.YtnjiekkdpeogfaaDoorRows
import Derived.Test.YtnjiekkdpeogfaaDoorCards
import Derived.Test.YtnjiekkdpeogfaaDoorTie
import Derived.Test.YtnjiekkdpeogfaaDoorLawNeg
import Derived.Test.YtnjiekkdpeogfaaDoorFrame
import Derived.Lib.SmallJoins
namespace Go.Proofs.YtnjiekkdpeogfaaDoor
open Go Go.Proofs Go.RowKit Go.Shelf Go.Lib Go.ChangeShapes Go.WideShapes Go.ChangeAt Go.Joins
namespace LawNeg

set_option maxRecDepth 100000 in
theorem lifted (os : Os) (started : os.Started) (H : Type) (enc : TypeId × Value → H) :
    ReturnsInHanded {} Tryd.checked os 8 .any (fun w args => (Rows.wideNegSpec.pre enc Tryd.prog Tryd.f8 [] false w args ∧ laidMetH Tryd.prog Rows.wideNegRow.laid w) ∧ sizedMet enc Tryd.prog Tryd.f8 (OpenSpec.ofChange Rows.wideNegSpec) false w args)
      (Rows.wideNegSpec.post enc Tryd.prog Tryd.f8 false true false false) := by
  refine returnsInHanded_of_change_and (C := Tryd.checked) (X := fun w _ => laidMetH Tryd.prog Rows.wideNegRow.laid w) (fun _ _ _ hh h => h.of_heap hh) own started (by kernel_rfl) Tryd.func8
    (ChangeSpec.witness_shaped (enc := enc) (C := Tryd.checked) (os := os) (X := fun w _ => laidMetH Tryd.prog Rows.wideNegRow.laid w) false (World.laidAll Tryd.prog os Rows.wideNegRow.laid) #[.agg #[.int .i64 0, .int .u64 0]] 8 (World.laidAll_os _ _ _)
      (World.shaped_of_ZipB (by kernel_rfl) (by kernel_rfl)) (by kernel_rfl) (by kernel_rfl) (by kernel_rfl)
      (by rw [MakeChecks.laidMetH_plain _ _ _ (by kernel_rfl)]; exact laidMet_laidAll _ (by kernel_rfl) (by kernel_rfl))) ?_
  intro W base args ds gs before hval0 hW _ _ hL hsz
  have hval : ∀ (j : Nat) t v, Tryd.f8.params[j]? = some t → args[j]? = some v → Value.okWide Tryd.prog W .any base t v := hval0
  have hW' := hW
  obtain ⟨p, q, hA0, hV, rfl, _, _⟩ := hW
  have hA : DataW.TrodAll enc Tryd.prog W 0 (fun _ => true) true Tryd.f8.params.toList args.toList ds p := hA0
  rw [Tryd.params8] at hA hval
  obtain ⟨v0, vs0, d0, ds0, p0, q0, hargs, rfl, rfl, h0, r0⟩ := trodAll_cons hA
  obtain ⟨rfl, rfl, rfl⟩ := trodAll_nil r0
  obtain rfl : args = #[v0] := by apply Array.toList_inj.1; simpa using hargs
  obtain ⟨rfl, rfl⟩ := trodVars_none hV
  have s0 := h0
  obtain ⟨c0, e0, y0, z0, m0, rfl, rfl, rfl, hy0, hz0⟩ := open_agg2 Tryd.underlying24 (by kernel_rfl) cellsInt (hval 0 24 v0 rfl rfl) h0
  obtain ⟨hi0, ehi0, rfl, whi0⟩ := DataW.trod_int Tryd.underlying2 hy0
  obtain ⟨lo0, elo0, rfl, wlo0⟩ := DataW.trod_int Tryd.underlying22 hz0
  simp at ehi0 elo0
  subst ehi0 elo0
  have b0 : InI hi0 lo0 := inI_of_wf whi0 wlo0
  simp only [List.append_nil] at hW'
  rw [MakeChecks.laidMetH_plain _ _ _ (by kernel_rfl)] at hL
  have hT : Tab W := tab_of_reads (Lib.laidMet.reads hL (n := powName) (d := Rows.laid_internal_strconv_uint64pow10) (by simp only [Rows.wideNegRow]; exact .tail _ (.tail _ (.head _))))
  refine (neg_law hi0 lo0 b0 W hT).mono fun e W' ⟨he, hb⟩ => ?_
  subst he
  exact ⟨_, rfl, _, _, _, [], _, [], hW', trodAll_mk1 (shut_bool Tryd.underlying4 _), (trodAll_mk1 (shut_agg2 (y0 := (.lit (.int .i64 hi0), [])) (y1 := (.lit (.int .u64 lo0), [])) Tryd.underlying24 (by kernel_rfl) cellsInt ⟨_, Go.ChangeShapes.trod_int_mk 0 Tryd.underlying2 whi0⟩ ⟨_, Go.ChangeShapes.trod_int_mk 0 Tryd.underlying22 wlo0⟩)), rfl, hb.frame _, fun h => by cases h⟩

theorem holds : Rows.WideNegSaid :=
  OpenClaim.holds_of_wide 8 Tryd.f8 rfl rfl rfl rfl rfl rfl rfl ⟨rfl, rfl, rfl, rfl, rfl⟩ rfl rfl rfl rfl rfl (by kernel_rfl) Tryd.func8 (by kernel_rfl)
    (of_decide_eq_true (by kernel_rfl)) (by unfold Func.isWrapper; first | (rw [if_pos (by decide +kernel)]; kernel_rfl) | (rw [if_neg (by decide +kernel)]; exact ⟨rfl, rfl⟩))
    (fun os started H enc _ => lifted os started H enc)

theorem card_holds : Rows.WideNegCardSaid :=
  Claim7.holds_tied_plain_at .later [] [.data, .data, .data, .data, .pinned] true (true, Rows.wideNegCard.stood.harness.2) false holds (fun _ h => by cases h) (by kernel_rfl) (fun _ h => by cases h) wideNeg_row_tie rfl ⟨rfl, rfl⟩ (by kernel_rfl) rfl
    (fun f fn hf hfn => by
      obtain rfl : f = 8 := Option.some.inj ((show Tryd.prog.funcNamed Rows.wideNegRow.func = some 8 by kernel_rfl).symm.trans hf) |>.symm
      obtain rfl : fn = Tryd.f8 := (Option.some.inj (Tryd.func8.symm.trans hfn)).symm
      exact ⟨by kernel_rfl, fun j t ht => by
        rw [Tryd.params8] at ht
        have hm : t ∈ [24] := by simpa using Array.mem_of_getElem? ht
        have hall : ([24].all fun u => !Tryd.prog.wantsStandIn u) = true := by kernel_rfl
        exact (show Tryd.prog.wantsStandIn t = false by simpa using List.all_eq_true.1 hall t hm)⟩)
    (by kernel_rfl)
end LawNeg
theorem wideNeg_holds : Rows.WideNegCardSaid := LawNeg.card_holds
end Go.Proofs.YtnjiekkdpeogfaaDoor
