/- belfrylaw10.DiskKeeps: for every input the law returns true, and each argument reads behind the call as it read before. No condition. -/
import Derived.Test.YtadffmfhojomnaaRows
import Derived.Test.YtadffmfhojomnaaLawDiskKeeps
import Derived.Test.YtadffmfhojomnaaDkO
import Derived.ProofKit
import Derived.OpenShut
import Derived.Lib.SmallJoins
import Derived.Carry
namespace Go.Proofs.Ytadffmfhojomnaa
open Go Go.Proofs Go.RowKit Go.Shelf Go.Lib Go.ChangeShapes Go.WideShapes Go.ChangeAt Go.Joins
namespace LawDiskKeeps
theorem laidOut : laidOutB Try.prog = true := by kernel_rfl
theorem own : ownKnob Try.prog.godebug = none := by kernel_rfl
set_option maxRecDepth 100000 in
theorem any (aa : Option Addr) (ac : Nat) (ba : Option Addr) (bc : Nat) (A : List UInt8) (R : List (Value × List UInt8)) (keep : Int) (w : World) (hA : Bys w (.slice aa A.length ac) A) (hB : Rws w (.slice ba R.length bc) R) (hAl : A.length ≤ 9223372036854775807) (hRl : R.length ≤ 9223372036854775807) :
    Calls Try.prog 3 #[.slice aa A.length ac, .slice ba R.length bc, .int .i64 keep] w fun e w' => e = .returned (.bool true) ∧ Below w.heap.size w w' := by
  by_cases h1 : A.length ≤ 200
  · by_cases h2 : R.length ≤ 20
    · exact main _ _ A R keep w hA hB h1 h2
    · have HK := Lib.hid (known_any w)
      have q1 : decide ((200 : Int) < (A.length : Int)) = false := by simp; omega
      have q2 : decide ((20 : Int) < (R.length : Int)) = true := by simp; omega
      clear hA hB
      go_enter Try.func3, Try.ntmps3
      go_wp2_with fail
      refine HK.out.mono ?_
      rintro e w1 ⟨rfl, hb⟩
      have HB := Lib.hid hb
      clear hb HK
      go_wp2
      go_ret
      exact ⟨rfl, HB.out⟩
  · have HK := Lib.hid (known_any w)
    have q1 : decide ((200 : Int) < (A.length : Int)) = true := by simp; omega
    clear hA hB
    go_enter Try.func3, Try.ntmps3
    go_wp2_with fail
    refine HK.out.mono ?_
    rintro e w1 ⟨rfl, hb⟩
    have HB := Lib.hid hb
    clear hb HK
    go_wp2
    go_ret
    exact ⟨rfl, HB.out⟩
set_option maxRecDepth 100000 in
theorem lifted (os : Os) (started : os.Started) (H : Type) (enc : TypeId × Value → H) :
    ReturnsInHanded {} Try.checked os 3 .any (Rows.diskKeepsSpec.pre6 enc Try.prog Try.f3 Rows.diskKeepsRow.domain false) (Rows.diskKeepsSpec.post enc Try.prog Try.f3 false true false false) := by
  refine returnsInHanded_of_change (C := Try.checked) own started (by kernel_rfl) Try.func3
    (ChangeSpec.witness6 (enc := enc) (C := Try.checked) false ⟨#[], #[.slice none 0 0, .slice none 0 0, .int .i64 0], []⟩ 8 (by kernel_rfl) (by kernel_rfl) (by kernel_rfl) (by kernel_rfl)) ?_
  intro W base args ds gs before hval0 hW hcnd _
  have hval : ∀ (j : Nat) t v, Try.f3.params[j]? = some t → args[j]? = some v → Value.okWide Try.prog W .any base t v := hval0
  have hW' := hW
  obtain ⟨p, q, hA0, hV, rfl, _, _⟩ := hW
  have hA : DataW.TrodAll enc Try.prog W 0 (fun _ => true) true Try.f3.params.toList args.toList ds p := hA0
  rw [Try.params3] at hA hval
  obtain ⟨v0, vs0, d0, ds0, p0, q0, hargs, rfl, rfl, h0, r0⟩ := trodAll_cons hA
  obtain ⟨v1, vs1, d1, ds1, p1, q1, rfl, rfl, rfl, h1, r1⟩ := trodAll_cons r0
  obtain ⟨v2, vs2, d2, ds2, p2, q2, rfl, rfl, rfl, h2, r2⟩ := trodAll_cons r1
  obtain ⟨rfl, rfl, rfl⟩ := trodAll_nil r2
  obtain rfl : args = #[v0, v1, v2] := by apply Array.toList_inj.1; simpa using hargs
  obtain ⟨rfl, rfl⟩ := trodVars_none hV
  have s0 := h0
  have s1 := h1
  have s2 := h2
  obtain ⟨aa, al, ac, rfl⟩ := okWide_slice Try.underlying22 (hval 0 22 v0 rfl rfl)
  obtain ⟨ba, bl, bc, rfl⟩ := okWide_slice Try.underlying23 (hval 1 23 v1 rfl rfl)
  obtain ⟨fu0, hf0⟩ := h0
  obtain ⟨fu1, hf1⟩ := h1
  obtain ⟨A, rfl, hAl, hAB⟩ := bys_of_trod hf0
  obtain ⟨R, rfl, hRl, _, hR⟩ := rws_of_trod hf1
  obtain ⟨keep, rfl, rfl, rfl, wk⟩ := open_int Try.underlying3 (hval 2 3 v2 rfl rfl) h2
  simp only [List.append_nil] at hW'
  refine (any aa ac ba bc A R keep W hAB hR hAl hRl).mono fun e W' ⟨he, hb⟩ => ?_
  subst he
  exact ⟨_, rfl, _, _, _, [], _, [], hW', trodAll_mk1 (shut_bool Try.underlying4 _), (trodAll_mk3 (Below.trod laidOut (by kernel_rfl) (of_decide_eq_true (by kernel_rfl)) s0 hb (fun x hx => hW'.lt x (by (try simp only [List.mem_append]); first | exact hx | exact .inl hx | exact .inr hx | exact .inr (.inl hx) | exact .inr (.inr hx)))) (Below.trod laidOut (by kernel_rfl) (of_decide_eq_true (by kernel_rfl)) s1 hb (fun x hx => hW'.lt x (by (try simp only [List.mem_append]); first | exact hx | exact .inl hx | exact .inr hx | exact .inr (.inl hx) | exact .inr (.inr hx)))) (shut_int Try.underlying3 wk)), rfl, hb.frame _, fun h => by cases h⟩
theorem holds : Rows.DiskKeepsSaid :=
  OpenClaim.holds_of_wide 3 Try.f3 rfl rfl rfl rfl rfl rfl rfl ⟨rfl, rfl, rfl, rfl, rfl⟩ rfl rfl rfl rfl rfl (by kernel_rfl) Try.func3 (by kernel_rfl)
    (of_decide_eq_true (by kernel_rfl)) (by unfold Func.isWrapper; first | (rw [if_pos (by decide +kernel)]; kernel_rfl) | (rw [if_neg (by decide +kernel)]; exact ⟨rfl, rfl⟩))
    (fun os started H enc _ => lifted os started H enc)
end LawDiskKeeps
theorem diskKeeps_holds : Rows.DiskKeepsSaid := LawDiskKeeps.holds
end Go.Proofs.Ytadffmfhojomnaa
