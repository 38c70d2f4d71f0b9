/- belfrylaw15.at, known. -/
import Derived.Test.YtoodcaonlfeleaaDoorSk
namespace Go.Proofs.YtoodcaonlfeleaaDoor
open Go Go.Proofs Go.RowKit Go.Shelf
set_option maxRecDepth 100000
attribute [local go_sem] cell_set Oper.semAt_some
def mx : SLab := ⟨([109], [120]), by constructor <;> decide⟩
def AtP (t s q : Int) (w : World) (e : Ending) (w' : World) : Prop := ∃ g : Nat, e = .returned (.agg #[.slice (some ⟨g, 0, none⟩) 1 1, .int .i64 0, .int .i64 t, .int .i64 s, .int .i64 q]) ∧ Labs w'.heap.size w' (.slice (some ⟨g, 0, none⟩) 1 1) [mx] ∧ Below w.heap.size w w'
set_option maxHeartbeats 4000000 in
theorem at_any (s q t : Int) (w : World) : Calls Tryd.prog 22 #[.int .i64 s, .int .i64 q, .int .i64 t] w (AtP t s q w) := by
  go_enter Tryd.func22, Tryd.ntmps22
  go_wp2
  refine bodyPost_ret (by simp [results, Tryd.results22, go_sem]; try rfl) rfl ?_
  refine ⟨w.heap.size + 1, rfl, .inr ⟨w.heap.size + 1, 0, 1, rfl, by simp, fun j x hj => ?_⟩, by go_grown⟩
  rcases j with _ | j
  · obtain rfl : mx = x := by simpa using hj
    constructor <;> simp [go_sem, mx]
  · simp at hj
theorem below_g {n b : Nat} {w W W' : World} (h : Below n w W) (g : W.grownBy W' (some b)) (hn : n ≤ b) (hw : n ≤ w.heap.size) : Below n w W' :=
  ⟨g.os.trans h.os, g.tape.trans h.tape, g.output.trans h.output, Nat.le_trans h.size g.size, fun k hk => (g.block k (Nat.lt_of_lt_of_le hk (Nat.le_trans hw h.size)) (fun e => by injection e; omega)).trans (h.block k hk)⟩
theorem row1_at {W : World} {base n : Nat} {e : TypeId} {a : Option Addr} {c : Nat} {xs : List Value} (h : W.ownsRow base e 1 (.slice a (n + 1) c) (n + 1) xs) : ∃ g, a = some ⟨g, 0, none⟩ := by
  rcases h.2 with ⟨q, _⟩ | ⟨g, cap, cur, q, _⟩
  · injection q with q1 q2; omega
  · injection q with q1; exact ⟨g, q1⟩
theorem row1_cell {W : World} {base n : Nat} {e : TypeId} {g : Nat} {c : Nat} {xs : List Value} (h : W.ownsRow base e 1 (.slice (some ⟨g, 0, none⟩) n c) n xs) (j : Nat) (u : Value) (hu : xs[j]? = some u) : W.cell? ⟨g, j, none⟩ = some u := by
  have := World.ownsRow.cells h (g := g) rfl j u hu
  rw [Addr.add_lit, Nat.zero_add] at this
  exact this
theorem kput {N : Int} {b : Nat} {K K' : Tb} {c t s q : Int} (hK : TbOk N K) (hN : N ≤ 1000000) (hc : putR K [mx] t s q = c) (hA : putA K [mx] t s q = K') (a : Option Addr) (n cap : Nat) (v : Int) (w : World) (h : TAt w b K) (hI : Labs w.heap.size w (.slice a n cap) [mx]) :
    Calls Tryd.prog 11 #[tp b, .agg #[.slice a n cap, .int .i64 v, .int .i64 t, .int .i64 s, .int .i64 q]] w fun e w' => e = .returned (.int .i64 c) ∧ TAt w' b K' ∧ w.grownBy w' (some b) := by
  have := put_any b K hK hN a n cap [mx] (by simp) v t s q w h hI
  unfold PutPost at this
  rw [hc, hA] at this
  exact this
def k0 : Tb := newT 5 2
theorem k0_ok : TbOk 0 k0 := new_ok ⟨by decide, by decide⟩
def k1 : Tb := putA k0 [mx] 8 2 1
theorem k1_ok : TbOk 0 k1 := putA_ok k0_ok _ _ _ _
theorem k1_c : putR k0 [mx] 8 2 1 = 0 := by kernel_rfl
def k2 : Tb := putA k1 [mx] 20 1 1
theorem k2_ok : TbOk 0 k2 := putA_ok k1_ok _ _ _ _
theorem k2_c : putR k1 [mx] 20 1 1 = 0 := by kernel_rfl
def k3 : Tb := putA k2 [mx] 30 2 1
theorem k3_ok : TbOk 0 k3 := putA_ok k2_ok _ _ _ _
theorem k3_c : putR k2 [mx] 30 2 1 = 6 := by kernel_rfl
def k4 : Tb := putA k3 [mx] 2 2 2
theorem k4_ok : TbOk 0 k4 := putA_ok k3_ok _ _ _ _
theorem k4_c : putR k3 [mx] 2 2 2 = 9 := by kernel_rfl
def k5 : Tb := tickT k4
theorem k5_ok : TbOk 1 k5 := tick_ok k4_ok
def k6 : Tb := putA k5 [mx] 21 1 2
theorem k6_ok : TbOk 1 k6 := putA_ok k5_ok _ _ _ _
theorem k6_c : putR k5 [mx] 21 1 2 = 0 := by kernel_rfl
def k7 : Tb := tickT k6
theorem k7_ok : TbOk 2 k7 := tick_ok k6_ok
def k8 : Tb := raiseT k7 40
theorem k8_ok : TbOk 2 k8 := raise_ok k7_ok (by unfold I64; omega)
theorem k2_f : k2.front = 3 := by kernel_rfl
theorem k7_f : k7.front = 16 := by kernel_rfl
theorem k8_f : k8.front = 40 := by kernel_rfl
theorem k8_r : rowR k8 2 = ⟨1, 8, 0⟩ := by kernel_rfl
theorem k8_l : liveN k8 = [0] := by kernel_rfl
set_option maxHeartbeats 8000000 in
theorem known_any (w : World) : Calls Tryd.prog 6 #[] w fun e w' => e = .returned (.bool true) ∧ Below w.heap.size w w' := by
  have hnw : NewOk 5 2 := ⟨by decide, by decide⟩
  have N0 := Lib.hid (fun W => new_any 5 2 W)
  have P1 := Lib.hid (fun (a : Nat) (W : World) (b : Nat) (h : TAt W b k0) (hI : Labs W.heap.size W (.slice (some ⟨a, 0, none⟩) 1 1) [mx]) => kput (K' := k1) (c := 0) (t := 8) (s := 2) (q := 1) k0_ok (by decide) k1_c rfl (some ⟨a, 0, none⟩) 1 1 0 W h hI)
  have A1 := Lib.hid (fun W => at_any 2 1 8 W)
  have P2 := Lib.hid (fun (a : Nat) (W : World) (b : Nat) (h : TAt W b k1) (hI : Labs W.heap.size W (.slice (some ⟨a, 0, none⟩) 1 1) [mx]) => kput (K' := k2) (c := 0) (t := 20) (s := 1) (q := 1) k1_ok (by decide) k2_c rfl (some ⟨a, 0, none⟩) 1 1 0 W h hI)
  have A2 := Lib.hid (fun W => at_any 1 1 20 W)
  have P3 := Lib.hid (fun (a : Nat) (W : World) (b : Nat) (h : TAt W b k2) (hI : Labs W.heap.size W (.slice (some ⟨a, 0, none⟩) 1 1) [mx]) => kput (K' := k3) (c := 6) (t := 30) (s := 2) (q := 1) k2_ok (by decide) k3_c rfl (some ⟨a, 0, none⟩) 1 1 0 W h hI)
  have A3 := Lib.hid (fun W => at_any 2 1 30 W)
  have P4 := Lib.hid (fun (a : Nat) (W : World) (b : Nat) (h : TAt W b k3) (hI : Labs W.heap.size W (.slice (some ⟨a, 0, none⟩) 1 1) [mx]) => kput (K' := k4) (c := 9) (t := 2) (s := 2) (q := 2) k3_ok (by decide) k4_c rfl (some ⟨a, 0, none⟩) 1 1 0 W h hI)
  have A4 := Lib.hid (fun W => at_any 2 2 2 W)
  have P6 := Lib.hid (fun (a : Nat) (W : World) (b : Nat) (h : TAt W b k5) (hI : Labs W.heap.size W (.slice (some ⟨a, 0, none⟩) 1 1) [mx]) => kput (K' := k6) (c := 0) (t := 21) (s := 1) (q := 2) k5_ok (by decide) k6_c rfl (some ⟨a, 0, none⟩) 1 1 0 W h hI)
  have A6 := Lib.hid (fun W => at_any 1 2 21 W)
  have F2 := Lib.hid (fun (W : World) (b : Nat) (h : TAt W b k2) => frontier_any b k2 W h)
  have T5 := Lib.hid (fun (W : World) (b : Nat) (h : TAt W b k4) => tick_any b k4 k4_ok (by decide) W h)
  have T7 := Lib.hid (fun (W : World) (b : Nat) (h : TAt W b k6) => tick_any b k6 k6_ok (by decide) W h)
  have F7 := Lib.hid (fun (W : World) (b : Nat) (h : TAt W b k7) => frontier_any b k7 W h)
  have F8 := Lib.hid (fun (W : World) (b : Nat) (h : TAt W b k8) => frontier_any b k8 W h)
  have TW := Lib.hid (fun (W : World) (b : Nat) (h : TAt W b k7) => twin_any b k7 k7_ok.len W h)
  have R8 := Lib.hid (fun (W : World) (b : Nat) (h : TAt W b k7) => raise_any b k7 40 W h)
  have LA := Lib.hid (fun (W : World) (b : Nat) (h : TAt W b k8) => last_any b k8 2 W k8_ok h)
  have LI := Lib.hid (fun (W : World) (b : Nat) (h : TAt W b k8) => Live_any b k8 k8_ok (by decide) W h)
  have S1 := Lib.hid (fun (W : World) (b : Nat) (h : TAt W b k8) => seen_any b k8 2 1 W k8_ok h)
  have S2 := Lib.hid (fun (W : World) (b : Nat) (h : TAt W b k8) => seen_any b k8 2 2 W k8_ok h)
  rw [k2_f] at F2
  rw [k7_f] at F7
  rw [k8_f] at F8
  rw [k8_r] at LA S1 S2
  unfold LivePost at LI
  rw [k8_l] at LI
  go_enter Tryd.func6, Tryd.ntmps6
  go_wp2_with fail
  refine (N0.out _).mono ?_
  rintro e w1 (⟨-, rfl, hT, hb⟩ | ⟨hn, -⟩)
  rotate_left
  · exact absurd hnw hn
  have T0 : TAt w1 w.heap.size k0 := hT
  have HB0 := Lib.hid hb
  clear hT hb N0
  go_wp2_with fail
  refine (A1.out _).mono ?_
  rintro e w2 ⟨g1, rfl, hI, hba⟩
  have X3 := VAt.below T0 hba
  have HB3 := Lib.hid (HB0.out.trans (hba.mono HB0.out.size))
  clear T0 hba
  go_wp2_with fail
  refine (P1.out g1 w2 _ X3 hI).mono ?_
  rintro e w3 ⟨rfl, Y3, hg⟩
  have HC3 := Lib.hid (below_g HB3.out hg (Nat.le_refl _) (Nat.le_refl _))
  clear X3 hI hg A1 P1
  go_wp2_with fail
  refine (A2.out _).mono ?_
  rintro e w4 ⟨g2, rfl, hI, hba⟩
  have X5 := VAt.below Y3 hba
  have HB5 := Lib.hid (HC3.out.trans (hba.mono HC3.out.size))
  clear Y3 hba
  go_wp2_with fail
  refine (P2.out g2 w4 _ X5 hI).mono ?_
  rintro e w5 ⟨rfl, Y5, hg⟩
  have HC5 := Lib.hid (below_g HB5.out hg (Nat.le_refl _) (Nat.le_refl _))
  clear X5 hI hg A2 P2
  go_wp2_with fail
  refine (F2.out _ _ Y5).mono ?_
  rintro e w6 ⟨rfl, rfl⟩
  clear F2
  go_wp2_with fail
  refine (A3.out _).mono ?_
  rintro e w7 ⟨g3, rfl, hI, hba⟩
  have X8 := VAt.below Y5 hba
  have HB8 := Lib.hid (HC5.out.trans (hba.mono HC5.out.size))
  clear Y5 hba
  go_wp2_with fail
  refine (P3.out g3 w7 _ X8 hI).mono ?_
  rintro e w8 ⟨rfl, Y8, hg⟩
  have HC8 := Lib.hid (below_g HB8.out hg (Nat.le_refl _) (Nat.le_refl _))
  clear X8 hI hg A3 P3
  go_wp2_with fail
  refine (A4.out _).mono ?_
  rintro e w9 ⟨g4, rfl, hI, hba⟩
  have X10 := VAt.below Y8 hba
  have HB10 := Lib.hid (HC8.out.trans (hba.mono HC8.out.size))
  clear Y8 hba
  go_wp2_with fail
  refine (P4.out g4 w9 _ X10 hI).mono ?_
  rintro e w10 ⟨rfl, Y10, hg⟩
  have HC10 := Lib.hid (below_g HB10.out hg (Nat.le_refl _) (Nat.le_refl _))
  clear X10 hI hg A4 P4
  go_wp2_with fail
  refine (T5.out _ _ Y10).mono ?_
  rintro e w11 ⟨⟨vT5, rfl⟩, hT, hg⟩
  have HC11 := Lib.hid (below_g HC10.out hg (Nat.le_refl _) (Nat.le_refl _))
  have Y11 := hT
  clear Y10 hg hT
  clear T5
  go_wp2_with fail
  refine (A6.out _).mono ?_
  rintro e w12 ⟨g6, rfl, hI, hba⟩
  have X13 := VAt.below Y11 hba
  have HB13 := Lib.hid (HC11.out.trans (hba.mono HC11.out.size))
  clear Y11 hba
  go_wp2_with fail
  refine (P6.out g6 w12 _ X13 hI).mono ?_
  rintro e w13 ⟨rfl, Y13, hg⟩
  have HC13 := Lib.hid (below_g HB13.out hg (Nat.le_refl _) (Nat.le_refl _))
  clear X13 hI hg A6 P6
  go_wp2_with fail
  refine (T7.out _ _ Y13).mono ?_
  rintro e w14 ⟨⟨vT7, rfl⟩, hT, hg⟩
  have HC14 := Lib.hid (below_g HC13.out hg (Nat.le_refl _) (Nat.le_refl _))
  have Y14 := hT
  clear Y13 hg hT
  clear T7
  go_wp2_with fail
  refine (F7.out _ _ Y14).mono ?_
  rintro e w15 ⟨rfl, rfl⟩
  go_wp2_with fail
  refine (TW.out _ _ Y14).mono ?_
  rintro e w16 ⟨rfl, hU, hbU⟩
  have Y16 := VAt.below Y14 hbU
  have bU := VAt.lt Y16
  have hne := VAt.lt Y14
  have HC16 := Lib.hid (HC14.out.trans (hbU.mono HC14.out.size))
  clear Y14 hbU TW
  go_wp2_with fail
  refine (R8.out _ _ Y16).mono ?_
  rintro e w17 ⟨⟨vR8, rfl⟩, hT, hg⟩
  have HG8 := Lib.hid hg
  have HC17 := Lib.hid (below_g HC16.out hg (Nat.le_refl _) (Nat.le_refl _))
  have Y17 := hT
  clear Y16 hg hT
  clear R8
  have U17 := VAt.grown hU HG8.out (fun e => by injection e; omega)
  clear hU
  go_wp2_with fail
  refine (LA.out _ _ Y17).mono ?_
  rintro e w18 ⟨rfl, hbl⟩
  have Y18 := VAt.below Y17 hbl
  have V18 := VAt.below U17 hbl
  have HC18 := Lib.hid (HC17.out.trans (hbl.mono HC17.out.size))
  clear Y17 U17 hbl LA
  go_wp2_with fail
  refine (LI.out _ _ Y18).mono ?_
  rintro e w19 ⟨la, lc, rfl, hlo, hbl⟩
  have Y19 := VAt.below Y18 hbl
  have V19 := VAt.below V18 hbl
  have HC19 := Lib.hid (HC18.out.trans (hbl.mono HC18.out.size))
  obtain ⟨lg, rfl⟩ := row1_at hlo
  have cl := row1_cell hlo 0 (.int .i64 1) rfl
  clear Y18 V18 hbl LI hlo
  have Y : TAt w19 w.heap.size k8 := Y19
  clear Y19
  simp only [List.length_cons, List.length_nil]
  go_wp2_with fail
  refine (F8.out _ _ Y).mono ?_
  rintro e wa ⟨rfl, hwa⟩
  cases hwa
  go_wp2_with fail
  refine (F7.out _ _ V19).mono ?_
  rintro e wa ⟨rfl, hwa⟩
  cases hwa
  go_wp2_with fail
  refine (S1.out _ _ Y).mono ?_
  rintro e wb ⟨rfl, hbb⟩
  have YB := VAt.below Y hbb
  have HB1 := Lib.hid (HC19.out.trans (hbb.mono HC19.out.size))
  clear hbb
  go_wp2_with fail
  refine (S2.out _ _ YB).mono ?_
  rintro e wc ⟨rfl, hbc⟩
  have HB2 := Lib.hid (HB1.out.trans (hbc.mono HB1.out.size))
  clear hbc
  go_wp2
  go_ret
  exact ⟨rfl, HB2.out⟩
end Go.Proofs.YtoodcaonlfeleaaDoor
