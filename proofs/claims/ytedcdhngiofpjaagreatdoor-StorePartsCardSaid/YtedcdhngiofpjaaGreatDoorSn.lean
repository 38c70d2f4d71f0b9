/- belfrylaw14.known. -/
import Derived.Test.YtedcdhngiofpjaaGreatDoorWb
import Derived.Test.YtedcdhngiofpjaaGreatDoorSz
import Derived.Test.YtedcdhngiofpjaaGreatDoorTi2
import Derived.Test.YtedcdhngiofpjaaGreatDoorTj2
import Derived.Test.YtedcdhngiofpjaaGreatDoorSm
import Derived.Test.YtedcdhngiofpjaaGreatDoorLd
namespace Go.Proofs.YtedcdhngiofpjaaGreatDoor
open Go Go.Proofs Go.RowKit Go.Shelf
set_option maxRecDepth 100000
attribute [local go_sem] cell_set Oper.semAt_some
def zs1 : List SLab := [⟨([109], [120]), ⟨by decide, by decide⟩⟩]
abbrev xa : Nm := ⟨5, 10, 1, 1⟩
abbrev xb : Nm := ⟨7, 11, 1, 2⟩
abbrev Ck : List Con := putC 10 (putC 10 [] zs1 xa) zs1 xb
theorem kn_r1 : rngC Ck zs1 0 20 = [xa, xb] := by kernel_rfl
theorem kn_r2 : rngC Ck zs1 10 20 = [xb] := by kernel_rfl
theorem kn_g : ((Ck.map (goneC 10)).sum : Nat) = 1 := by kernel_rfl
theorem kn_l : (Ck.filterMap (evC 10)).length = 1 := by kernel_rfl
theorem kn_c : checkR zs1 = 0 := by kernel_rfl
theorem kn_s1 : sampR zs1 10 1 1 = 0 := by kernel_rfl
theorem kn_s2 : sampR zs1 11 1 2 = 0 := by kernel_rfl
theorem kn_n0 : allN ([] : List Con) = 0 := rfl
theorem kn_n1 : allN (putC 10 [] zs1 xa) = 1 := by kernel_rfl
section
variable {g : Int} {n0 : Nat} {u u' : World} {S : Sto} {R : List RowE}
theorem StoW.mark (h : StoW g n0 (fun _ => False) u S R) {lb : Nat} (hl : u.heap.size ≤ lb) (hb : Below u.heap.size u u') (hlt : lb < u'.heap.size) : StoW g n0 (fun b => b = lb) u' S R :=
  ⟨h.st.below hb, h.grid, fun b hb' => ⟨(h.own b hb').1, fun q => by have := h.st.lt b hb'; omega⟩, fun b q => by omega, Nat.le_trans h.n0 hb.size, h.rel, h.n⟩
end
theorem at_farRow {w : World} {b a : Nat} {l : List Value} (h : At w b l) (hne : b ≠ a) (c : Array Value) : At (w.setRow a c) b l := by
  have e := setRow_other w a b c hne
  exact ⟨by rw [setRow_size]; exact h.lt, fun j v hv => (World.cell?_of_block (a := ⟨b, j, none⟩) e).trans (h.cell j v hv), fun j v hv => (World.frozen?_of_block (a := ⟨b, j, none⟩) e).trans (h.free j v hv)⟩
theorem labs_one (u : World) : Labs (u.alloc (.cells #[.string ⟨#[109]⟩, .string ⟨#[120]⟩] TLab)).heap.size (u.alloc (.cells #[.string ⟨#[109]⟩, .string ⟨#[120]⟩] TLab)) (.slice (some ⟨u.heap.size, 0, none⟩) 1 1) zs1 := by
  have h := At.nw u [.string ⟨#[109]⟩, .string ⟨#[120]⟩] TLab
  refine .inr ⟨u.heap.size, 0, 1, rfl, by simp, fun j x hj => ?_⟩
  rcases j with _ | j
  · injection hj with hj
    subst hj
    exact ⟨h.cell 0 _ rfl, h.cell 1 _ rfl⟩
  · cases hj
set_option maxHeartbeats 16000000 in
theorem known_any (w : World) : Calls Tryz.prog 5 #[] w fun e w' => e = .returned (.bool true) ∧ Below w.heap.size w w' := by
  have C1 := Lib.hid (new_stoW (g := 10) (u := w) (fun _ => False) (fun _ h => h.elim) (by omega) (by omega))
  have CN := Lib.hid (fun u => new_bad14 0 (.inl (by omega)) u)
  have hc5 : All64 [5, 7] := fun x hx => by simp at hx; rcases hx with rfl | rfl <;> (unfold H64; omega)
  have HC := Lib.hid (fun u => hcount_any (histR [5, 7]) (histR_small hc5 (by simp)) u)
  rw [count_hist hc5] at HC
  have hl65 : Hid ((histR [5, 7]).length = 65) := histR_len _
  obtain ⟨p1, hp1⟩ : ∃ p, p = ofR [xa, xb] := ⟨_, rfl⟩
  obtain ⟨p2, hp2⟩ : ∃ p, p = ofR [xb] := ⟨_, rfl⟩
  have hc1 : p1.c = 2 := by rw [hp1]; kernel_rfl
  have hc2 : p2.c = 1 := by rw [hp2]; kernel_rfl
  have hv2 : p2.v = 7 := by rw [hp2]; kernel_rfl
  have HP1 := Lib.hid hp1
  have HP2 := Lib.hid hp2
  clear hp1 hp2 hc5
  generalize hh : histR [5, 7] = H5 at *
  have HH := Lib.hid hh
  clear hh
  go_enter Tryz.func5, Tryz.ntmps5
  go_wp2_with fail
  refine C1.out.mono ?_
  rintro e w1 ⟨rfl, hb1, S0, hSb, hS0, hss⟩
  have hS1 := hS0.mark (lb := w1.heap.size) (Nat.le_refl _) (below_cells (.cells #[.string ⟨#[109]⟩, .string ⟨#[120]⟩] TLab)) (by simp)
  have C := Lib.hid (hS1.put (by omega) (by omega) (some ⟨w1.heap.size, 0, none⟩) 1 1 zs1 xa ⟨by decide, by decide⟩ kn_s1 (by rw [hss]; show allN [] < 100; rw [kn_n0]; omega) (fun ad e => by injection e with e; rw [← e]) (labs_one w1))
  rw [hSb] at C
  have HL := Lib.hid (labs_one w1)
  have hn0 : Hid (S0.n = 0) := by have := hS0.n; rw [hss] at this; exact this
  have HB := Lib.hid (below_new hb1 (.cells #[.string ⟨#[109]⟩, .string ⟨#[120]⟩] TLab))
  have HS1 := Lib.hid hS1
  clear hb1 hS0 hS1 C1
  go_wp2_with fail
  refine C.out.mono ?_
  rintro e w2 ⟨rfl, S1, hS2, hb2, hcon2, hn2, hbl2, ht2⟩
  have hL2 := labs_turn14 HL.out ht2 (fun ad e q => by injection e with e; subst e; exact (HS1.out.own _ q).2 rfl)
  have HB := Lib.hid (HB.out.trans hbl2)
  rw [hSb] at hb2
  have C := Lib.hid (hS2.put (by omega) (by omega) (some ⟨w1.heap.size, 0, none⟩) 1 1 zs1 xb ⟨by decide, by decide⟩ kn_s2 (by rw [hcon2, hss]; show allN (putC 10 [] zs1 xa) < 100; rw [kn_n1]; omega) (fun ad e => by injection e with e; rw [← e]) hL2)
  rw [hb2] at C
  have HL := Lib.hid hL2
  have HS2 := Lib.hid hS2
  have hn2 : Hid (S1.n = 1) := by rw [hn0.out] at hn2; exact hn2
  clear hbl2 ht2 hL2 hS2
  go_wp2_with fail
  refine C.out.mono ?_
  rintro e w3 ⟨rfl, S2, hS3, hb3, hcon3, hn3, hbl3, ht3⟩
  have hL3 := labs_turn14 HL.out ht3 (fun ad e q => by injection e with e; subst e; exact (HS2.out.own _ q).2 rfl)
  have HB := Lib.hid (HB.out.trans hbl3)
  rw [hb2] at hb3
  have hC : S2.ss.map con = Ck := by rw [hcon3, hcon2, hss]; rfl
  have hn3 : Hid (S2.n = 2) := by rw [hn2.out] at hn3; exact hn3
  have hg3 : 1 ≤ S2.grid := by rw [hS3.grid]; omega
  have R1 := Lib.hid (fun u (hb : Below w3.heap.size w3 u) => range_con S2 hg3 (some ⟨w1.heap.size, 0, none⟩) 1 1 zs1 kn_c 0 20 (by rw [hS3.grid]; decide) u (hS3.below hb).st (labs_on hL3 hb))
  have R2 := Lib.hid (fun u (hb : Below w3.heap.size w3 u) => range_con S2 hg3 (some ⟨w1.heap.size, 0, none⟩) 1 1 zs1 kn_c 10 20 (by rw [hS3.grid]; decide) u (hS3.below hb).st (labs_on hL3 hb))
  have R3 := Lib.hid (fun u (hb : Below w3.heap.size w3 u) => (callsIn_wide (n := 9)).1 (range_bad14 S2 hg3 (some ⟨w1.heap.size, 0, none⟩) 1 1 5 20 (by rw [hS3.grid]; decide) u (hS3.below hb).st))
  have R4 := Lib.hid (fun u (hb : Below w3.heap.size w3 u) => hist_con S2 hg3 (some ⟨w1.heap.size, 0, none⟩) 1 1 zs1 kn_c 0 20 (by rw [hS3.grid]; decide) u (hS3.below hb).st (labs_on hL3 hb))
  have TW := Lib.hid (fun u (hb : Below w3.heap.size w3 u) => twin_any S2 u (hS3.below hb).st)
  have EV := Lib.hid (fun u (hb : Below w3.heap.size w3 u) => (callsIn_wide (n := 9)).1 (stEvict_any S2 10 (by rw [hn3.out]; omega) u (hS3.below hb).st))
  rw [hb3] at R1 R2 R3 R4 TW EV
  rw [hC, kn_r1, ← HP1.out] at R1
  rw [hC, kn_r2, ← HP2.out] at R2
  rw [hC, kn_r1, show vals [xa, xb] = [5, 7] from rfl, HH.out] at R4
  have HS3 := Lib.hid hS3
  have HC1 := Lib.hid hc1
  have HC2 := Lib.hid hc2
  have HV2 := Lib.hid hv2
  clear hbl3 ht3 hL3 hS3 HS1 HS2 HL hg3 C hc1 hc2 hv2 HP1 HP2 HH
  unfold Pn.V at R1 R2 R3
  dsimp only [Pn.zero] at R3
  go_wp2_with fail
  refine (R1.out _ (Below.refl _ _)).mono ?_
  rintro e w4 ⟨rfl, hb4⟩
  have P1 := At.nwb w4.heap.size w4 (pnC p1) 55 rfl
  have B4 := below_new hb4 (.cells (pnC p1).toArray 55)
  have P1 := Lib.hid P1
  have B4 := Lib.hid B4
  have s4 : Hid (w3.heap.size ≤ w4.heap.size) := hb4.size
  unfold pnC at P1 B4
  clear hb4 R1
  go_wp2_with fail
  refine (R2.out _ B4.out).mono ?_
  rintro e w5 ⟨rfl, hb5⟩
  have P1 := Lib.hid (P1.out.below hb5)
  have B5 := Lib.hid (below_then B4.out hb5)
  have P2 := Lib.hid (At.nwb w5.heap.size w5 [.int .i64 p2.c, .int .i64 p2.h, .int .u64 p2.l, .int .i64 p2.mn, .int .i64 p2.mx, .int .i64 p2.t, .int .i64 p2.s, .int .i64 p2.q, .int .i64 p2.v] 55 rfl)
  have B6 := Lib.hid (below_new B5.out (.cells #[.int .i64 p2.c, .int .i64 p2.h, .int .u64 p2.l, .int .i64 p2.mn, .int .i64 p2.mx, .int .i64 p2.t, .int .i64 p2.s, .int .i64 p2.q, .int .i64 p2.v] 55))
  have P1 := Lib.hid (P1.out.alloc (.cells #[.int .i64 p2.c, .int .i64 p2.h, .int .u64 p2.l, .int .i64 p2.mn, .int .i64 p2.mx, .int .i64 p2.t, .int .i64 p2.s, .int .i64 p2.q, .int .i64 p2.v] 55))
  have s5 : Hid (w3.heap.size ≤ w5.heap.size) := B5.out.size
  clear hb5 R2 B4 B5
  go_wp2_with fail
  refine (R3.out _ B6.out).mono ?_
  rintro e w6 ⟨rfl, hb6⟩
  have P1 := Lib.hid (P1.out.below hb6)
  have P2 := Lib.hid (P2.out.below hb6)
  have B7 := Lib.hid (below_new (below_then B6.out hb6) (.cells #[.int .i64 0, .int .i64 0, .int .u64 0, .int .i64 0, .int .i64 0, .int .i64 0, .int .i64 0, .int .i64 0, .int .i64 0] 55))
  have P1 := Lib.hid (P1.out.alloc (.cells #[.int .i64 0, .int .i64 0, .int .u64 0, .int .i64 0, .int .i64 0, .int .i64 0, .int .i64 0, .int .i64 0, .int .i64 0] 55))
  have P2 := Lib.hid (P2.out.alloc (.cells #[.int .i64 0, .int .i64 0, .int .u64 0, .int .i64 0, .int .i64 0, .int .i64 0, .int .i64 0, .int .i64 0, .int .i64 0] 55))
  clear hb6 R3 B6
  go_wp2_with fail
  refine (R4.out _ B7.out).mono ?_
  rintro e w7 ⟨rfl, hb7⟩
  have P1 := Lib.hid (P1.out.below hb7)
  have P2 := Lib.hid (P2.out.below hb7)
  have B8 := Lib.hid (below_then B7.out hb7)
  clear hb7 R4 B7
  have hz := zeroH
  have hzs := hc_size zs65
  have hzn := hc_ne zs65_len
  go_wp2_with (first | (refine st_row rowH (hat_new w7 59 zs65_len) rfl rfl rfl rfl hl65.out ?_) | fail)
  have H8 := Lib.hid ((hat_new w7 59 zs65_len).row hl65.out)
  have ne7 : w4.heap.size ≠ w7.heap.size ∧ w5.heap.size ≠ w7.heap.size := by
    have q1 := P1.out.lt
    have q2 := P2.out.lt
    omega
  have P1 := Lib.hid (at_farRow (P1.out.alloc (.cells (hc zs65) 59)) ne7.1 (hc H5))
  have P2 := Lib.hid (at_farRow (P2.out.alloc (.cells (hc zs65) 59)) ne7.2 (hc H5))
  have B9 := Lib.hid (below_row (below_new B8.out (.cells (hc zs65) 59)) B8.out.size (hc H5))
  have s7 : Hid (w3.heap.size ≤ w7.heap.size) := B8.out.size
  clear hz hzs hzn ne7 B8
  generalize (w7.alloc (Obj.cells (hc zs65) 59)).setRow w7.heap.size (hc H5) = w8 at *
  refine (TW.out _ B9.out).mono ?_
  rintro e w9 ⟨T, rfl, hT, hTg, hTn, hTc, hTo, hTl, hb9⟩
  have P1 := Lib.hid (P1.out.below hb9)
  have P2 := Lib.hid (P2.out.below hb9)
  have H9 := Lib.hid (H8.out.below hb9)
  have B10 := Lib.hid (below_then B9.out hb9)
  have s8 := B9.out.size
  have hdis : Hid (∀ b ∈ S2.own, b < w3.heap.size) := HS3.out.st.lt
  have htd : Hid (∀ b ∈ T.own, b ∉ S2.own) := fun b q1 q2 => by have := hTo b q1; have := hdis.out b q2; omega
  have htl : Hid (∀ e ∈ T.ss, ∀ b, e.2.lv.ownBlock = some b → b ∉ S2.own) := fun e he b q => by
    obtain ⟨e', he', e2⟩ := hTl e he
    exact HS3.out.st.lab_not HS3.out.st e' he' b (by rw [e2]; exact q)
  have HT := Lib.hid hT
  have hTn : Hid (T.n = 2) := by rw [hTn]; exact hn3.out
  clear hb9 TW B9 H8 hTg hTc hTo hTl s8 hT
  go_wp2_with fail
  refine (EV.out _ B10.out).mono ?_
  rintro e w10 hev
  unfold EwPost at hev
  rw [hC, kn_g] at hev
  obtain ⟨rfl, S3, ⟨v1, v2, v3, v4, v5, v6⟩, hS4, ht10⟩ := hev
  rw [hC] at v3 v4
  rw [kn_g] at v4
  have lt10 : ∀ k, w3.heap.size ≤ k → k ∉ S2.own := fun k hk q => by have := hdis.out k q; omega
  have P1 := Lib.hid (at_turn14 P1.out ht10 (lt10 _ s4.out))
  have P2 := Lib.hid (at_turn14 P2.out ht10 (lt10 _ s5.out))
  have H10 := Lib.hid (H9.out.keep (ht10.block _ H9.out.lt (lt10 _ s7.out)))
  have HT10 := Lib.hid (HT.out.turn ht10 htd.out htl.out)
  have HB10 := Lib.hid (HB.out.trans ((B10.out.mono HB.out.size).trans (ht10.to_below (n0 := w.heap.size) (fun b hb => (HS3.out.own b hb).1) (Nat.le_trans HB.out.size B10.out.size))))
  have hSn : Hid (S3.n = 1) := by rw [v4, hn3.out]; rfl
  have hSl : Hid (S3.ss.length = 1) := by have := congrArg List.length v3; rw [List.length_map, kn_l] at this; exact this
  have HS4 := Lib.hid hS4
  rw [hb3] at v1
  have hv1 := Lib.hid v1
  clear v1 v2 v3 v4 v5 v6 hS4 ht10 lt10 H9 HT B10 EV HB htd htl hdis s4 s5 s7
  have f1 := P1.out.cell 0 _ rfl
  have f2 := P2.out.cell 0 _ rfl
  have f3 := P2.out.cell 8 _ rfl
  rw [HC1.out] at f1
  rw [HC2.out] at f2
  rw [HV2.out] at f3
  have HL1 := Lib.hid (len_any14 S3)
  have HL2 := Lib.hid (len_any14 T)
  have HSe := Lib.hid (series_any S3)
  rw [hSn.out, hv1.out] at HL1
  rw [hTn.out] at HL2
  rw [hv1.out] at HSe
  go_wp2_with fail
  refine (CN.out _).mono ?_
  rintro e w11 ⟨rfl, rfl⟩
  have H10' := H10.out
  go_wp2_with (first | (refine ldG_row rowH H10' rfl rfl rfl ?_) | fail)
  refine (HC.out _).mono ?_
  rintro e w12 ⟨rfl, hb12⟩
  have HB12 := Lib.hid (HB10.out.trans (hb12.mono HB10.out.size))
  have HS5 := Lib.hid (HS4.out.below hb12)
  have HT5 := Lib.hid (HT10.out.below hb12)
  clear hb12 f1 f2 f3 H10'
  go_wp2_with fail
  refine (HL1.out _ HS5.out).mono ?_
  rintro e w13 ⟨rfl, rfl⟩
  go_wp2_with fail
  refine (HL2.out _ HT5.out).mono ?_
  rintro e w14 ⟨rfl, rfl⟩
  go_wp2_with fail
  refine (HSe.out _ HS5.out).mono ?_
  rintro e w15 ⟨v, vs, rfl, hcl, hb15⟩
  have hvl : vs.length = 1 := by rw [hcl.len]; exact hSl.out
  have hrow := hcl.row
  rw [hvl] at hrow
  obtain ⟨gv, cv, rfl⟩ := ownsRow_succ hrow
  have HB15 := Lib.hid (HB12.out.trans (hb15.mono HB12.out.size))
  clear hrow hcl hb15
  go_wp2
  go_ret
  exact ⟨rfl, HB15.out⟩
end Go.Proofs.YtedcdhngiofpjaaGreatDoor
/- line6.Good: all samples may be. -/
namespace Go.Proofs.YtedcdhngiofpjaaGreatDoor
open Go Go.Proofs Go.RowKit Go.Shelf
set_option maxRecDepth 100000
attribute [local go_sem] cell_set Oper.semAt_some
/-- a sample may be -/
def MayBe (w : World) (s : Smp) : Prop := ∃ ss : List SLab, ss.length ≤ 100 ∧ Labs w.heap.size w (.slice s.sa s.sn s.sc) ss ∧ sampR ss s.x.t s.x.s s.x.q = 0
def GoodS (w : World) (L : List Smp) (e : Ending) (w' : World) : Prop := ∃ b, e = .returned (.bool b) ∧ (b = true → L.length ≤ 80 ∧ ∀ s ∈ L, MayBe w s) ∧ Below w.heap.size w w'
set_option maxHeartbeats 4000000 in
theorem good_all (a : Option Addr) (cap : Nat) (L : List Smp) (w : World) (hL : Smps w (.slice a L.length cap) L) (hO : ∀ s ∈ L, LabOK w s) :
    Calls Tryz.prog 27 #[.slice a L.length cap] w (GoodS w L) := by
  have HL := Lib.hid hL
  have HO := Lib.hid hO
  clear hL hO
  by_cases h80 : L.length ≤ 80
  · have q0 : ¬ (80 : Int) < (L.length : Int) := by omega
    go_enter Tryz.func27, Tryz.ntmps27
    go_wp2
    go_loopw [3] (fun i wr => ∃ k : Nat, i = .int .i64 (k : Int) ∧ k ≤ L.length ∧ (∀ s ∈ L.take k, MayBe w s) ∧ Below w.heap.size w wr) (fun i _ => L.length - (intOf i).toNat)
    case atStart => exact ⟨0, rfl, Nat.zero_le _, by simp, Below.refl _ _⟩
    case round =>
      obtain ⟨k, rfl, hk, hF, B⟩ := hrel
      have HF := Lib.hid hF
      clear hF
      by_cases hlt : k < L.length
      · obtain ⟨s, hs⟩ : ∃ s, L[k]? = some s := ⟨_, List.getElem?_eq_getElem hlt⟩
        obtain ⟨b, off, rfl, hb, c0, c1, c2, c3, c4⟩ := (HL.out.below B).at hs
        have hk1 := (HO.out s (List.mem_of_getElem? hs)).below B
        have FW := Lib.hid (few_any s.sa s.sn s.sc s.zs hk1.n hk1.b _ wr hk1.g)
        have h0k : (0 : Int) ≤ (k : Int) := by omega
        have h1k : (k : Int) < (L.length : Int) := by omega
        have HS := Lib.hid hs
        cases hf : fewR s.zs
        · rw [hf] at FW
          clear hs hk1 hf
          go_wp2_with fail
          refine FW.out.mono ?_
          rintro e w1 ⟨rfl, rfl⟩
          go_wp2
          go_ret
          exact ⟨false, rfl, (by simp), B⟩
        · obtain ⟨ss, hss, hls0⟩ := (HO.out s (List.mem_of_getElem? hs)).short hf
          have hls := labs_on hls0 B
          have HF2 : Hid (sampR ss s.x.t s.x.s s.x.q = 0 → ∀ q ∈ L.take (k + 1), MayBe w q) := by
            intro hc q hq
            rw [snoc_at hs] at hq
            rcases List.mem_append.1 hq with h | h
            · exact HF.out q h
            · obtain rfl := List.mem_singleton.1 h
              exact ⟨ss, hss, hls0, hc⟩
          rw [hf] at FW
          have O6 := Lib.hid (of6_any s.sa s.sn s.sc ss hss s.x.v s.x.t s.x.s s.x.q wr hls)
          have H100 := Lib.hid hss
          clear hs hk1 hf hls hss hls0
          unfold sampV at O6
          go_wp2_with fail
          refine FW.out.mono ?_
          rintro e w1 ⟨rfl, rfl⟩
          go_wp2_with fail
          refine O6.out.mono ?_
          rintro e w1 ⟨v, rfl, hv, hb1⟩
          obtain ⟨va, vn, vc, rfl⟩ := slice_of_labs6 hv
          have CS := Lib.hid (rsamp_any va vn vc ss H100.out s.x.v s.x.t s.x.s s.x.q w1 hv)
          have B1 := below_then B hb1
          clear hv hb1 c0 c1 c2 c3 c4
          generalize sampR ss s.x.t s.x.s s.x.q = cc at *
          by_cases hc : cc = 0
          · subst hc
            go_wp2_with fail
            refine CS.out.mono ?_
            rintro e w2 ⟨rfl, hb2⟩
            have B2 := below_then B1 hb2
            clear hb2
            go_wp2
            go_roundw
            case rel => exact ⟨k + 1, by go_num, by omega, HF2.out (by first | rfl | trivial), B2⟩
            case measure => simp [intOf]; omega
          · have nc : (cc != 0) = true := by rw [bne_iff_ne]; exact hc
            go_wp2_with fail
            refine CS.out.mono ?_
            rintro e w2 ⟨rfl, hb2⟩
            have B2 := below_then B1 hb2
            clear hb2
            go_wp2
            go_ret
            exact ⟨false, rfl, (by simp), B2⟩
      · obtain rfl : k = L.length := by omega
        rw [List.take_length] at HF
        have h1k : ¬ (L.length : Int) < (L.length : Int) := by omega
        go_wp2
        go_ret
        exact ⟨true, rfl, fun _ => ⟨h80, HF.out⟩, B⟩
  · have q0 : (80 : Int) < (L.length : Int) := by omega
    go_enter Tryz.func27, Tryz.ntmps27
    go_wp2
    go_ret
    exact ⟨false, rfl, (by simp), Below.refl _ _⟩
end Go.Proofs.YtedcdhngiofpjaaGreatDoor
