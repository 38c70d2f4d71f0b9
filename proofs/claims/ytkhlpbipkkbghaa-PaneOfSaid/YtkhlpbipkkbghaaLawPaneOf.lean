/- belfrylaw12.PaneOf: the walk. -/
import Derived.Test.YtkhlpbipkkbghaaKp
import Derived.Test.YtkhlpbipkkbghaaSm
import Derived.Test.YtkhlpbipkkbghaaPrO
import Derived.Test.YtkhlpbipkkbghaaPrV
namespace Go.Proofs.Ytkhlpbipkkbghaa
open Go Go.Proofs Go.RowKit Go.Shelf
set_option maxRecDepth 100000
attribute [local go_sem] cell_set Oper.semAt_some
namespace LawPaneOf
/-- what lies in memory at the end -/
structure LS (p : Pn) (vh vl : Int) (xp xq xa xc : Nat) (w u : World) : Prop where
  P : At u xp [.int .i64 p.c, .int .i64 p.h, .int .u64 p.l, .int .i64 p.mn, .int .i64 p.mx, .int .i64 p.t, .int .i64 p.s, .int .i64 p.q, .int .i64 p.v]
  Q : At u xq [.int .i64 p.c, .int .i64 p.h, .int .u64 p.l, .int .i64 p.mn, .int .i64 p.mx, .int .i64 p.t, .int .i64 p.s, .int .i64 p.q, .int .i64 p.v]
  A : At u xa [.int .i64 vh, .int .u64 vl]
  C : At u xc [.int .i64 vh, .int .u64 vl]
  B : Below w.heap.size w u
section
variable {p : Pn} {vh vl : Int} {xp xq xa xc : Nat} {w u u' : World}
theorem LS.drew (h : LS p vh vl xp xq xa xc w u) : LS p vh vl xp xq xa xc w u.drew := ⟨h.P.drew, h.Q.drew, h.A.drew, h.C.drew, h.B.drew⟩
theorem LS.below (h : LS p vh vl xp xq xa xc w u) (hb : Below u.heap.size u u') : LS p vh vl xp xq xa xc w u' := ⟨h.P.below hb, h.Q.below hb, h.A.below hb, h.C.below hb, below_then h.B hb⟩
end
set_option maxHeartbeats 4000000 in
theorem any (aa : Option Addr) (ac : Nat) (L : List Smp) (f : Int) (w : World) (hL : Smps w (.slice aa L.length ac) L) (hO : ∀ s ∈ L, LabOK w s) (hx : ∀ x ∈ nums L, I64 x.v) :
    Calls Try.prog 3 #[.slice aa L.length ac, .int .i64 f] w fun e w' => e = .returned (.bool true) ∧ Below w.heap.size w w' := by
  have HK := Lib.hid (known_any w)
  have GO := Lib.hid (fun W (hW : Below w.heap.size w W) => good_any aa ac L W (hL.below hW) (fun s hs => (hO s hs).below hW))
  have HL := Lib.hid hL
  have HO := Lib.hid hO
  have HX := Lib.hid hx
  clear hL hO hx
  go_enter Try.func3, Try.ntmps3
  go_wp2_with fail
  refine HK.out.mono ?_
  rintro e w1 ⟨rfl, B⟩
  go_wp2_with fail
  refine (GO.out _ B).mono ?_
  rintro e w2 ⟨b, rfl, hg, hb⟩
  have B := below_then B hb
  clear hb HK GO
  cases b
  · go_wp2
    go_ret
    exact ⟨rfl, B⟩
  · obtain ⟨h80, hF⟩ := hg rfl
    clear hg
    have PO := Lib.hid (fun W (hW : Below w.heap.size w W) => pof_any aa ac L (by omega) HX.out W (HL.out.below hW))
    have OA := Lib.hid (fun W (hW : Below w.heap.size w W) => ofall_any aa ac L h80 W (HL.out.below hW) (fun s hs => (HO.out s hs).below hW) hF)
    have RO := Lib.hid (fun a c (R : List Smp) (hR : nums R = nums L) W (hW : Smps W (.slice a R.length c) R) => by
      have h := rof_any a c R (by rw [← nums_len, hR, nums_len]; omega) (by rw [hR]; exact HX.out) W hW
      rw [hR] at h
      exact h)
    have hbd := ofR_bd (nums L) HX.out (by rw [nums_len]; omega)
    have hn : (nums L).length ≤ 1000000 := by rw [nums_len]; omega
    generalize ofR (nums L) = p at *
    have VP := Lib.hid (fun W => pval_any p hbd hn f W)
    have VR := Lib.hid (fun W => rval_any p hbd hn f W)
    obtain ⟨⟨vh, vl, vd, vb⟩, hv⟩ : ∃ v, pvalR p f = v := ⟨_, rfl⟩
    rw [hv] at VP VR
    have LO := Lib.hid (fun W => lof12_any p W)
    have L1 := Lib.hid (fun W => lof1_any vh vl W)
    unfold valV at VP VR
    unfold Pn.V at *
    dsimp only at VP VR
    clear hbd hn hv HX HO h80 hF
    go_wp2_with fail
    refine (PO.out _ B).mono ?_
    rintro e w3 ⟨rfl, hb⟩
    have B := below_new (below_then B hb) (.cells #[.int .i64 p.c, .int .i64 p.h, .int .u64 p.l, .int .i64 p.mn, .int .i64 p.mx, .int .i64 p.t, .int .i64 p.s, .int .i64 p.q, .int .i64 p.v] 29)
    have DP := At.nw w3 [.int .i64 p.c, .int .i64 p.h, .int .u64 p.l, .int .i64 p.mn, .int .i64 p.mx, .int .i64 p.t, .int .i64 p.s, .int .i64 p.q, .int .i64 p.v] 29
    generalize hpb : w3.heap.size = xp at DP
    clear hb PO
    go_wp2_with fail
    refine (OA.out _ B).mono ?_
    rintro e w4 ⟨ra, rc, R, rfl, hR, hS, hb⟩
    have B := below_then B hb
    have DP := DP.below hb
    clear hb OA
    go_wp2_with fail
    refine (RO.out _ _ _ hR _ hS).mono ?_
    rintro e w5 ⟨rfl, hb⟩
    have B := below_new (below_then B hb) (.cells #[.int .i64 p.c, .int .i64 p.h, .int .u64 p.l, .int .i64 p.mn, .int .i64 p.mx, .int .i64 p.t, .int .i64 p.s, .int .i64 p.q, .int .i64 p.v] 33)
    have DP := (DP.below hb).alloc (.cells #[.int .i64 p.c, .int .i64 p.h, .int .u64 p.l, .int .i64 p.mn, .int .i64 p.mx, .int .i64 p.t, .int .i64 p.s, .int .i64 p.q, .int .i64 p.v] 33)
    have DQ := At.nw w5 [.int .i64 p.c, .int .i64 p.h, .int .u64 p.l, .int .i64 p.mn, .int .i64 p.mx, .int .i64 p.t, .int .i64 p.s, .int .i64 p.q, .int .i64 p.v] 33
    clear hb RO hR hS
    clear hpb
    have fP := DP.f9
    go_wp2_with fail
    refine (VP.out _).mono ?_
    rintro e w6 ⟨rfl, hb⟩
    have B := below_new (below_then B hb) (.cells #[.int .i64 vh, .int .u64 vl] 27)
    have DP := (DP.below hb).alloc (.cells #[.int .i64 vh, .int .u64 vl] 27)
    have DQ := (DQ.below hb).alloc (.cells #[.int .i64 vh, .int .u64 vl] 27)
    have DA := At.nw w6 [.int .i64 vh, .int .u64 vl] 27
    clear hb VP fP
    have fQ := DQ.f9
    go_wp2_with fail
    refine (VR.out _).mono ?_
    rintro e w7 ⟨rfl, hb⟩
    have hM : LS p vh vl xp w5.heap.size w6.heap.size w7.heap.size w (w7.alloc (.cells #[.int .i64 vh, .int .u64 vl] 31)) := ⟨(DP.below hb).alloc _, (DQ.below hb).alloc _, (DA.below hb).alloc _, At.nw w7 [.int .i64 vh, .int .u64 vl] 31, below_new (below_then B hb) _⟩
    clear DP DQ DA B hb VR fQ
    generalize w5.heap.size = xq at *
    generalize w6.heap.size = xa at *
    go_wp2_with fail
    refine wp_region_held_drew (S := LS p vh vl xp xq xa w7.heap.size w) (by kernel_rfl) hM.drew (fun hS => ?_)
    generalize (w7.alloc (.cells #[.int .i64 vh, .int .u64 vl] 31)).drew = w0 at *
    generalize w7.heap.size = xc at *
    clear hM
    refine tkC 0 hS (fun u h => h.P.f9) ?_
    refine tkC 2 hS (fun u h => h.Q.f9) ?_
    refine anyH_1 1 (fun K hK => ?_)
    go_simp
    go_at_call 14
    refine (LO.out _).mono ?_
    rintro e w1 ⟨rfl, hb1⟩
    have hM1 := hS.below hb1
    go_wp2_with fail
    refine hK.out _ _ hM1 (fun hS => ?_)
    clear hM1 hK K hb1
    refine tkC 3 hS (fun u h => h.P.f9) ?_
    refine tkC 4 hS (fun u h => h.P.f9) ?_
    refine tkC 5 hS (fun u h => h.A.f2) ?_
    refine tkC 7 hS (fun u h => h.C.f2) ?_
    refine anyH_1 6 (fun K hK => ?_)
    go_simp
    go_at_call 15
    refine (L1.out _).mono ?_
    rintro e w1 ⟨rfl, hb1⟩
    have hM1 := hS.below hb1
    go_wp2_with fail
    refine hK.out _ _ hM1 (fun hS => ?_)
    clear hM1 hK K hb1
    refine tkC 8 hS (fun u h => h.P.f9) ?_
    refine tkC 9 hS (fun u h => h.P.f9) ?_
    refine tkC 10 hS (fun u h => h.P.f9) ?_
    refine tkC 11 hS (fun u h => h.P.f9) ?_
    refine tkC 12 hS (fun u h => h.P.f9) ?_
    refine tkC 13 hS (fun u h => h.P.f9) ?_
    refine tkC 14 hS (fun u h => h.P.f9) ?_
    refine tkC 15 hS (fun u h => h.P.f9) ?_
    refine tkC 16 hS (fun u h => h.P.f9) ?_
    refine tkC 17 hS (fun u h => h.P.f9) ?_
    refine tkC 18 hS (fun u h => h.P.f9) ?_
    refine tkC 19 hS (fun u h => h.P.f9) ?_
    refine tkC 20 hS (fun u h => h.P.f9) ?_
    refine wpAnyH_done (by kernel_rfl) ?_ _
    have B := hS.B
    go_wp2
    go_ret
    exact ⟨rfl, B⟩
end LawPaneOf
end Go.Proofs.Ytkhlpbipkkbghaa
