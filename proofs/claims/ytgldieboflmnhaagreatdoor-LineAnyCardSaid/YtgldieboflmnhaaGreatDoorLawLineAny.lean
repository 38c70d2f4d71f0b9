/- belfrylaw6.LineAny: the walk. -/
import Derived.Test.YtgldieboflmnhaaGreatDoorKnown6W
import Derived.Test.YtgldieboflmnhaaGreatDoorROf6
import Derived.Test.YtgldieboflmnhaaGreatDoorRLine6
import Derived.Test.YtgldieboflmnhaaGreatDoorRSamp
import Derived.Test.YtgldieboflmnhaaGreatDoorRCmp6
import Derived.Test.YtgldieboflmnhaaGreatDoorRefC
namespace Go.Proofs.YtgldieboflmnhaaGreatDoor
open Go Go.Proofs Go.RowKit Go.Shelf
set_option maxRecDepth 100000
attribute [local go_sem] Oper.semAt_some
theorem cmpS_neg (a2 a3 a4 b2 b3 b4 : Int) : cmpS b2 b3 b4 a2 a3 a4 = 0 - cmpS a2 a3 a4 b2 b3 b4 ∧ -1 ≤ cmpS a2 a3 a4 b2 b3 b4 ∧ cmpS a2 a3 a4 b2 b3 b4 ≤ 1 := by
  have k : ∀ x y : Int, ordI y x = 0 - ordI x y ∧ -1 ≤ ordI x y ∧ ordI x y ≤ 1 := by
    intro x y
    unfold ordI
    split <;> split <;> omega
  have k1 := k a2 b2
  have k2 := k a3 b3
  have k3 := k a4 b4
  unfold cmpS orI
  rw [k1.1, k2.1, k3.1]
  generalize ordI a2 b2 = x at *
  generalize ordI a3 b3 = y at *
  generalize ordI a4 b4 = z at *
  repeat' split
  all_goals omega
set_option maxHeartbeats 4000000 in
theorem any_few0 (sa sb : Option Addr) (na ca nb cb : Nat) (a1 a2 a3 a4 b1 b2 b3 b4 : Int) (za zb : List Lab) (la : za.length ≤ 9223372036854775807) (ba : ∀ x ∈ za, x.1.length ≤ 9223372036854775807 ∧ x.2.length ≤ 9223372036854775807) (lb : zb.length ≤ 9223372036854775807) (bb : ∀ x ∈ zb, x.1.length ≤ 9223372036854775807 ∧ x.2.length ≤ 9223372036854775807) (w : World) (ht : Tab w) (he : ErrsOk w) (LA : LabsG w.heap.size w (.slice sa na ca) za) (LB : LabsG w.heap.size w (.slice sb nb cb) zb) (hf : fewR za = false) :
    Calls Tryz.prog 3 #[.agg #[.slice sa na ca, .int .i64 a1, .int .i64 a2, .int .i64 a3, .int .i64 a4], .agg #[.slice sb nb cb, .int .i64 b1, .int .i64 b2, .int .i64 b3, .int .i64 b4]] w fun e w' => e = .returned (.bool true) ∧ Below w.heap.size w w' := by
  have KN := Lib.hid (fun W (hW : Below w.heap.size w W) => known_any W (ht.below hW) (he.below hW))
  have FA := Lib.hid (fun W (hW : Below w.heap.size w W) => few_any sa na ca za la ba w.heap.size W (LA.below hW))
  have FB := Lib.hid (fun W (hW : Below w.heap.size w W) => few_any sb nb cb zb lb bb w.heap.size W (LB.below hW))
  rw [hf] at FA
  clear LA LB la ba lb bb ht he
  refine (callsIn_wide (n := 9)).1 ?_
  refine callsIn_of_wp Tryz.func3 rfl trivial ?_ rfl
  simp only [Tryz.ntmps3, List.size_toArray, List.length_cons, List.length_nil, Nat.reduceAdd, Nat.reduceSub, Array.replicate_succ, Array.replicate_zero, List.push_toArray, List.append_toArray, List.nil_append, List.cons_append]
  have A1 := blk_on (blk_new w #[.slice sa na ca, .int .i64 a1, .int .i64 a2, .int .i64 a3, .int .i64 a4] 25) (below_cells (w := (w.alloc (.cells #[.slice sa na ca, .int .i64 a1, .int .i64 a2, .int .i64 a3, .int .i64 a4] 25))) (.cells #[.slice sb nb cb, .int .i64 b1, .int .i64 b2, .int .i64 b3, .int .i64 b4] 25))
  have A2 := blk_new (w.alloc (.cells #[.slice sa na ca, .int .i64 a1, .int .i64 a2, .int .i64 a3, .int .i64 a4] 25)) #[.slice sb nb cb, .int .i64 b1, .int .i64 b2, .int .i64 b3, .int .i64 b4] 25
  rw [World.size_alloc] at A2
  have B_0 := below_new (below_cells (w := w) (.cells #[.slice sa na ca, .int .i64 a1, .int .i64 a2, .int .i64 a3, .int .i64 a4] 25)) (.cells #[.slice sb nb cb, .int .i64 b1, .int .i64 b2, .int .i64 b3, .int .i64 b4] 25)
  gi_wp2
  generalize (w.alloc (.cells #[.slice sa na ca, .int .i64 a1, .int .i64 a2, .int .i64 a3, .int .i64 a4] 25)).alloc (.cells #[.slice sb nb cb, .int .i64 b1, .int .i64 b2, .int .i64 b3, .int .i64 b4] 25) = W0 at *
  have p0 := (blk_at A1).cell 0 _ rfl
  have p1 := (blk_at A1).cell 1 _ rfl
  have p2 := (blk_at A1).cell 2 _ rfl
  have p3 := (blk_at A1).cell 3 _ rfl
  have p4 := (blk_at A1).cell 4 _ rfl
  have q0 := (blk_at A2).cell 0 _ rfl
  have q1 := (blk_at A2).cell 1 _ rfl
  have q2 := (blk_at A2).cell 2 _ rfl
  have q3 := (blk_at A2).cell 3 _ rfl
  have q4 := (blk_at A2).cell 4 _ rfl
  refine ⟨trivial, ?_⟩
  gi_at_call 5
  refine (callsIn_wide.2 (KN.out _ B_0)).mono ?_
  rintro e u1 ⟨rfl, hb⟩
  clear p0 p1 p2 p3 p4 q0 q1 q2 q3 q4
  have pK1 := blk_on A1 hb
  clear A1
  have qK1 := blk_on A2 hb
  clear A2
  have B_1 := B_0.trans (hb.mono B_0.size)
  clear B_0
  clear hb
  have p0 := (blk_at pK1).cell 0 _ rfl
  have p1 := (blk_at pK1).cell 1 _ rfl
  have p2 := (blk_at pK1).cell 2 _ rfl
  have p3 := (blk_at pK1).cell 3 _ rfl
  have p4 := (blk_at pK1).cell 4 _ rfl
  have q0 := (blk_at qK1).cell 0 _ rfl
  have q1 := (blk_at qK1).cell 1 _ rfl
  have q2 := (blk_at qK1).cell 2 _ rfl
  have q3 := (blk_at qK1).cell 3 _ rfl
  have q4 := (blk_at qK1).cell 4 _ rfl
  gi_wp2
  refine ⟨trivial, ?_⟩
  gi_at_call 6
  refine (callsIn_wide.2 (FA.out _ B_1)).mono ?_
  rintro e u9 ⟨rfl, rfl⟩
  gi_wp2
  refine ⟨trivial, ?_⟩
  gi_wp2
  go_ret
  exact ⟨rfl, B_1⟩
set_option maxHeartbeats 4000000 in
theorem any_few1 (sa sb : Option Addr) (na ca nb cb : Nat) (a1 a2 a3 a4 b1 b2 b3 b4 : Int) (za zb : List Lab) (la : za.length ≤ 9223372036854775807) (ba : ∀ x ∈ za, x.1.length ≤ 9223372036854775807 ∧ x.2.length ≤ 9223372036854775807) (lb : zb.length ≤ 9223372036854775807) (bb : ∀ x ∈ zb, x.1.length ≤ 9223372036854775807 ∧ x.2.length ≤ 9223372036854775807) (w : World) (ht : Tab w) (he : ErrsOk w) (LA : LabsG w.heap.size w (.slice sa na ca) za) (LB : LabsG w.heap.size w (.slice sb nb cb) zb) (hf : fewR za = true) (hg : fewR zb = false) :
    Calls Tryz.prog 3 #[.agg #[.slice sa na ca, .int .i64 a1, .int .i64 a2, .int .i64 a3, .int .i64 a4], .agg #[.slice sb nb cb, .int .i64 b1, .int .i64 b2, .int .i64 b3, .int .i64 b4]] w fun e w' => e = .returned (.bool true) ∧ Below w.heap.size w w' := by
  have KN := Lib.hid (fun W (hW : Below w.heap.size w W) => known_any W (ht.below hW) (he.below hW))
  have FA := Lib.hid (fun W (hW : Below w.heap.size w W) => few_any sa na ca za la ba w.heap.size W (LA.below hW))
  have FB := Lib.hid (fun W (hW : Below w.heap.size w W) => few_any sb nb cb zb lb bb w.heap.size W (LB.below hW))
  rw [hf] at FA
  rw [hg] at FB
  clear LA LB la ba lb bb ht he
  refine (callsIn_wide (n := 9)).1 ?_
  refine callsIn_of_wp Tryz.func3 rfl trivial ?_ rfl
  simp only [Tryz.ntmps3, List.size_toArray, List.length_cons, List.length_nil, Nat.reduceAdd, Nat.reduceSub, Array.replicate_succ, Array.replicate_zero, List.push_toArray, List.append_toArray, List.nil_append, List.cons_append]
  have A1 := blk_on (blk_new w #[.slice sa na ca, .int .i64 a1, .int .i64 a2, .int .i64 a3, .int .i64 a4] 25) (below_cells (w := (w.alloc (.cells #[.slice sa na ca, .int .i64 a1, .int .i64 a2, .int .i64 a3, .int .i64 a4] 25))) (.cells #[.slice sb nb cb, .int .i64 b1, .int .i64 b2, .int .i64 b3, .int .i64 b4] 25))
  have A2 := blk_new (w.alloc (.cells #[.slice sa na ca, .int .i64 a1, .int .i64 a2, .int .i64 a3, .int .i64 a4] 25)) #[.slice sb nb cb, .int .i64 b1, .int .i64 b2, .int .i64 b3, .int .i64 b4] 25
  rw [World.size_alloc] at A2
  have B_0 := below_new (below_cells (w := w) (.cells #[.slice sa na ca, .int .i64 a1, .int .i64 a2, .int .i64 a3, .int .i64 a4] 25)) (.cells #[.slice sb nb cb, .int .i64 b1, .int .i64 b2, .int .i64 b3, .int .i64 b4] 25)
  gi_wp2
  generalize (w.alloc (.cells #[.slice sa na ca, .int .i64 a1, .int .i64 a2, .int .i64 a3, .int .i64 a4] 25)).alloc (.cells #[.slice sb nb cb, .int .i64 b1, .int .i64 b2, .int .i64 b3, .int .i64 b4] 25) = W0 at *
  have p0 := (blk_at A1).cell 0 _ rfl
  have p1 := (blk_at A1).cell 1 _ rfl
  have p2 := (blk_at A1).cell 2 _ rfl
  have p3 := (blk_at A1).cell 3 _ rfl
  have p4 := (blk_at A1).cell 4 _ rfl
  have q0 := (blk_at A2).cell 0 _ rfl
  have q1 := (blk_at A2).cell 1 _ rfl
  have q2 := (blk_at A2).cell 2 _ rfl
  have q3 := (blk_at A2).cell 3 _ rfl
  have q4 := (blk_at A2).cell 4 _ rfl
  refine ⟨trivial, ?_⟩
  gi_at_call 5
  refine (callsIn_wide.2 (KN.out _ B_0)).mono ?_
  rintro e u1 ⟨rfl, hb⟩
  clear p0 p1 p2 p3 p4 q0 q1 q2 q3 q4
  have pK1 := blk_on A1 hb
  clear A1
  have qK1 := blk_on A2 hb
  clear A2
  have B_1 := B_0.trans (hb.mono B_0.size)
  clear B_0
  clear hb
  have p0 := (blk_at pK1).cell 0 _ rfl
  have p1 := (blk_at pK1).cell 1 _ rfl
  have p2 := (blk_at pK1).cell 2 _ rfl
  have p3 := (blk_at pK1).cell 3 _ rfl
  have p4 := (blk_at pK1).cell 4 _ rfl
  have q0 := (blk_at qK1).cell 0 _ rfl
  have q1 := (blk_at qK1).cell 1 _ rfl
  have q2 := (blk_at qK1).cell 2 _ rfl
  have q3 := (blk_at qK1).cell 3 _ rfl
  have q4 := (blk_at qK1).cell 4 _ rfl
  gi_wp2
  refine ⟨trivial, ?_⟩
  gi_at_call 6
  refine (callsIn_wide.2 (FA.out _ B_1)).mono ?_
  rintro e u9 ⟨rfl, rfl⟩
  gi_wp2
  refine ⟨trivial, ?_⟩
  gi_at_call 6
  refine (callsIn_wide.2 (FB.out _ B_1)).mono ?_
  rintro e u8 ⟨rfl, rfl⟩
  gi_wp2
  go_ret
  exact ⟨rfl, B_1⟩
theorem big_of_few {zs : List Lab} (h : fewR zs = true) : ∀ x ∈ zs, x.1.length ≤ 9223372036854775807 ∧ x.2.length ≤ 9223372036854775807 := by
  unfold fewR at h
  rw [Bool.and_eq_true, List.all_eq_true] at h
  intro x hx
  have := h.2 x hx
  unfold fewL at this
  rw [Bool.and_eq_true, decide_eq_true_eq, decide_eq_true_eq] at this
  omega
set_option maxHeartbeats 8000000 in
theorem any_both (sa sb : Option Addr) (na ca nb cb : Nat) (a1 a2 a3 a4 b1 b2 b3 b4 : Int) (za zb : List SLab) (hza : za.length ≤ 30) (hzb : zb.length ≤ 30) (fa : fewR (za.map (·.1)) = true) (fb : fewR (zb.map (·.1)) = true) (k0 : I64 a1) (k1 : I64 a2) (k2 : I64 a3) (k3 : I64 a4) (w : World) (ht : Tab w) (he : ErrsOk w) (LA : Labs w.heap.size w (.slice sa na ca) za) (LB : Labs w.heap.size w (.slice sb nb cb) zb) :
    Calls Tryz.prog 3 #[.agg #[.slice sa na ca, .int .i64 a1, .int .i64 a2, .int .i64 a3, .int .i64 a4], .agg #[.slice sb nb cb, .int .i64 b1, .int .i64 b2, .int .i64 b3, .int .i64 b4]] w fun e w' => e = .returned (.bool true) ∧ Below w.heap.size w w' := by
  have KN := Lib.hid (fun W (hW : Below w.heap.size w W) => known_any W (ht.below hW) (he.below hW))
  have FA := Lib.hid (fun W (hW : Below w.heap.size w W) => few_any sa na ca (za.map (·.1)) (by rw [List.length_map]; omega) (big_of_few fa) w.heap.size W ((LA.below hW).toG))
  have FB := Lib.hid (fun W (hW : Below w.heap.size w W) => few_any sb nb cb (zb.map (·.1)) (by rw [List.length_map]; omega) (big_of_few fb) w.heap.size W ((LB.below hW).toG))
  rw [fa] at FA
  rw [fb] at FB
  have OA := Lib.hid (fun W (hI : Labs W.heap.size W (.slice sa na ca) za) => of6_any sa na ca za (by omega) a1 a2 a3 a4 W hI)
  have OB := Lib.hid (fun W (hI : Labs W.heap.size W (.slice sb nb cb) zb) => of6_any sb nb cb zb (by omega) b1 b2 b3 b4 W hI)
  have RS := Lib.hid (fun s n c W (hI : Labs W.heap.size W (.slice s n c) za) => rsamp_any s n c za (by omega) a1 a2 a3 a4 W hI)
  have CK := Lib.hid (fun W (hI : Labs W.heap.size W (.slice sa na ca) za) => lcheck_any sa na ca za (by omega) a1 a2 a3 a4 W hI)
  have RC := Lib.hid (fun u v W => rcmp_any u v a1 a2 a3 a4 b1 b2 b3 b4 W)
  have CA := Lib.hid (fun u v W => lcompare_any u v a1 a2 a3 a4 b1 b2 b3 b4 W)
  have CB := fun u v W => lcompare_any u v b1 b2 b3 b4 a1 a2 a3 a4 W
  obtain ⟨e1, e2, e3⟩ := cmpS_neg a2 a3 a4 b2 b3 b4
  simp only [e1] at CB
  have CB := Lib.hid CB
  clear e1
  have LA0 := LA
  have LB0 := LB
  have TX := Lib.hid (fun W (hW : Below w.heap.size w W) (hI : Labs W.heap.size W (.slice sa na ca) za) => lineText_any sa na ca za (by omega) a1 a2 a3 a4 k0 k1 k2 k3 W (ht.below hW) hI)
  have RL := Lib.hid (fun s n c W (hI : Labs W.heap.size W (.slice s n c) za) => rline_any s n c za (by omega) a1 a2 a3 a4 k0 k1 k2 k3 W hI)
  have PA : sampR za a2 a3 a4 = 0 → ∀ W, Below w.heap.size w W → Calls Tryz.prog 13 #[.string ⟨(lineR za a1 a2 a3 a4).toArray⟩] W fun e w' => ∃ v, e = .returned (.tuple #[sampV v a1 a2 a3 a4, .int .i64 0]) ∧ Labs w'.heap.size w' v za ∧ Below W.heap.size W w' := by
    intro h0 W hW
    have hc : checkR za = 0 := by
      unfold sampR at h0
      by_cases h : checkR za = 0
      · exact h
      · rw [if_pos h] at h0; exact h0
    refine (lparse_line za hc a1 a2 a3 a4 k0 k1 k2 k3 W (ht.below hW) (he.below hW)).mono ?_
    rintro e w' ⟨⟨_, v, h1, h2⟩ | ⟨h1, _⟩, h3⟩
    · exact ⟨v, h1, h2, h3⟩
    · exact absurd h0 h1
  have SY := Lib.hid (fun s1 n1 c1 s2 n2 c2 W (h1 : Labs W.heap.size W (.slice s1 n1 c1) za) (h2 : Labs W.heap.size W (.slice s2 n2 c2) za) => same6_yes s1 s2 n1 c1 n2 c2 za (by omega) a1 a2 a3 a4 W h1 h2)
  have OX := Lib.hid (fun s n c W (hI : Labs W.heap.size W (.slice s n c) za) => of6_any s n c za (by omega) a1 a2 a3 a4 W hI)
  generalize sampR za a2 a3 a4 = ev at *
  generalize cmpS a2 a3 a4 b2 b3 b4 = cv at *
  generalize lineR za a1 a2 a3 a4 = TT at *
  have PA := Lib.hid PA
  clear LA LB ht he fa fb k0 k1 k2 k3
  unfold sampV at *
  refine (callsIn_wide (n := 9)).1 ?_
  refine callsIn_of_wp Tryz.func3 rfl trivial ?_ rfl
  simp only [Tryz.ntmps3, List.size_toArray, List.length_cons, List.length_nil, Nat.reduceAdd, Nat.reduceSub, Array.replicate_succ, Array.replicate_zero, List.push_toArray, List.append_toArray, List.nil_append, List.cons_append]
  have A1 := blk_on (blk_new w #[.slice sa na ca, .int .i64 a1, .int .i64 a2, .int .i64 a3, .int .i64 a4] 25) (below_cells (w := (w.alloc (.cells #[.slice sa na ca, .int .i64 a1, .int .i64 a2, .int .i64 a3, .int .i64 a4] 25))) (.cells #[.slice sb nb cb, .int .i64 b1, .int .i64 b2, .int .i64 b3, .int .i64 b4] 25))
  have A2 := blk_new (w.alloc (.cells #[.slice sa na ca, .int .i64 a1, .int .i64 a2, .int .i64 a3, .int .i64 a4] 25)) #[.slice sb nb cb, .int .i64 b1, .int .i64 b2, .int .i64 b3, .int .i64 b4] 25
  rw [World.size_alloc] at A2
  have B_0 := below_new (below_cells (w := w) (.cells #[.slice sa na ca, .int .i64 a1, .int .i64 a2, .int .i64 a3, .int .i64 a4] 25)) (.cells #[.slice sb nb cb, .int .i64 b1, .int .i64 b2, .int .i64 b3, .int .i64 b4] 25)
  gi_wp2
  have La_0 := labs_on LA0 B_0
  have Lb_0 := labs_on LB0 B_0
  clear LA0 LB0
  generalize (w.alloc (.cells #[.slice sa na ca, .int .i64 a1, .int .i64 a2, .int .i64 a3, .int .i64 a4] 25)).alloc (.cells #[.slice sb nb cb, .int .i64 b1, .int .i64 b2, .int .i64 b3, .int .i64 b4] 25) = W0 at *
  have p0 := (blk_at A1).cell 0 _ rfl
  have p1 := (blk_at A1).cell 1 _ rfl
  have p2 := (blk_at A1).cell 2 _ rfl
  have p3 := (blk_at A1).cell 3 _ rfl
  have p4 := (blk_at A1).cell 4 _ rfl
  have q0 := (blk_at A2).cell 0 _ rfl
  have q1 := (blk_at A2).cell 1 _ rfl
  have q2 := (blk_at A2).cell 2 _ rfl
  have q3 := (blk_at A2).cell 3 _ rfl
  have q4 := (blk_at A2).cell 4 _ rfl
  refine ⟨trivial, ?_⟩
  gi_at_call 5
  refine (callsIn_wide.2 (KN.out _ B_0)).mono ?_
  rintro e u1 ⟨rfl, hb⟩
  clear p0 p1 p2 p3 p4 q0 q1 q2 q3 q4
  have pK1 := blk_on A1 hb
  clear A1
  have qK1 := blk_on A2 hb
  clear A2
  have La_1 := labs_on La_0 hb
  clear La_0
  have Lb_1 := labs_on Lb_0 hb
  clear Lb_0
  have B_1 := B_0.trans (hb.mono B_0.size)
  clear B_0
  clear hb
  have p0 := (blk_at pK1).cell 0 _ rfl
  have p1 := (blk_at pK1).cell 1 _ rfl
  have p2 := (blk_at pK1).cell 2 _ rfl
  have p3 := (blk_at pK1).cell 3 _ rfl
  have p4 := (blk_at pK1).cell 4 _ rfl
  have q0 := (blk_at qK1).cell 0 _ rfl
  have q1 := (blk_at qK1).cell 1 _ rfl
  have q2 := (blk_at qK1).cell 2 _ rfl
  have q3 := (blk_at qK1).cell 3 _ rfl
  have q4 := (blk_at qK1).cell 4 _ rfl
  gi_wp2
  refine ⟨trivial, ?_⟩
  gi_at_call 6
  refine (callsIn_wide.2 (FA.out _ B_1)).mono ?_
  rintro e u91 ⟨rfl, rfl⟩
  gi_wp2
  refine ⟨trivial, ?_⟩
  gi_at_call 6
  refine (callsIn_wide.2 (FB.out _ B_1)).mono ?_
  rintro e u92 ⟨rfl, rfl⟩
  gi_wp2
  refine ⟨trivial, ?_⟩
  gi_at_call 8
  refine (callsIn_wide.2 (OA.out _ La_1)).mono ?_
  rintro e u2 ⟨v1, rfl, Lv_0, hb⟩
  clear p0 p1 p2 p3 p4 q0 q1 q2 q3 q4
  have pK2 := blk_on pK1 hb
  clear pK1
  have qK2 := blk_on qK1 hb
  clear qK1
  have La_2 := labs_on La_1 hb
  clear La_1
  have Lb_2 := labs_on Lb_1 hb
  clear Lb_1
  have B_2 := B_1.trans (hb.mono B_1.size)
  clear B_1
  clear hb
  obtain ⟨s1, n1, c1, rfl⟩ := slice_of_labs6 Lv_0
  have p0 := (blk_at pK2).cell 0 _ rfl
  have p1 := (blk_at pK2).cell 1 _ rfl
  have p2 := (blk_at pK2).cell 2 _ rfl
  have p3 := (blk_at pK2).cell 3 _ rfl
  have p4 := (blk_at pK2).cell 4 _ rfl
  have q0 := (blk_at qK2).cell 0 _ rfl
  have q1 := (blk_at qK2).cell 1 _ rfl
  have q2 := (blk_at qK2).cell 2 _ rfl
  have q3 := (blk_at qK2).cell 3 _ rfl
  have q4 := (blk_at qK2).cell 4 _ rfl
  gi_wp2
  refine ⟨trivial, ?_⟩
  gi_at_call 7
  refine (callsIn_wide.2 (RS.out _ _ _ _ Lv_0)).mono ?_
  rintro e u3 ⟨rfl, hb⟩
  clear p0 p1 p2 p3 p4 q0 q1 q2 q3 q4
  have pK3 := blk_on pK2 hb
  clear pK2
  have qK3 := blk_on qK2 hb
  clear qK2
  have La_3 := labs_on La_2 hb
  clear La_2
  have Lb_3 := labs_on Lb_2 hb
  clear Lb_2
  have B_3 := B_2.trans (hb.mono B_2.size)
  clear B_2
  clear hb
  clear Lv_0
  have p0 := (blk_at pK3).cell 0 _ rfl
  have p1 := (blk_at pK3).cell 1 _ rfl
  have p2 := (blk_at pK3).cell 2 _ rfl
  have p3 := (blk_at pK3).cell 3 _ rfl
  have p4 := (blk_at pK3).cell 4 _ rfl
  have q0 := (blk_at qK3).cell 0 _ rfl
  have q1 := (blk_at qK3).cell 1 _ rfl
  have q2 := (blk_at qK3).cell 2 _ rfl
  have q3 := (blk_at qK3).cell 3 _ rfl
  have q4 := (blk_at qK3).cell 4 _ rfl
  gi_wp2
  refine wpIn_mono ?_ NoPanic.imp
  refine region_anyM (S := fun u => u.cell? ⟨w.heap.size, 0, none⟩ = some (.slice sa na ca) ∧ u.cell? ⟨w.heap.size, 1, none⟩ = some (.int .i64 a1) ∧ u.cell? ⟨w.heap.size, 2, none⟩ = some (.int .i64 a2) ∧ u.cell? ⟨w.heap.size, 3, none⟩ = some (.int .i64 a3) ∧ u.cell? ⟨w.heap.size, 4, none⟩ = some (.int .i64 a4) ∧ u.cell? ⟨w.heap.size + 1, 0, none⟩ = some (.slice sb nb cb) ∧ u.cell? ⟨w.heap.size + 1, 1, none⟩ = some (.int .i64 b1) ∧ u.cell? ⟨w.heap.size + 1, 2, none⟩ = some (.int .i64 b2) ∧ u.cell? ⟨w.heap.size + 1, 3, none⟩ = some (.int .i64 b3) ∧ u.cell? ⟨w.heap.size + 1, 4, none⟩ = some (.int .i64 b4)) 5 (by kernel_rfl) (fun hS => ?_) ⟨p0, p1, p2, p3, p4, q0, q1, q2, q3, q4⟩
  clear p0 p1 p2 p3 p4 q0 q1 q2 q3 q4
  refine' anyM_take (i := 0) (oi := ?oi0r6) (v := ?v0r6) [0, 5] (by kernel_rfl) ?hi0r6 (by kernel_rfl) (by kernel_rfl) (by kernel_rfl) (by kernel_rfl) (fun _ _ _ h => h) ?hy0r6 ?hab0r6 hS ?rest0r6
  case hi0r6 =>
    simp only [List.getElem?_toArray, List.getElem?_cons_succ, List.getElem?_cons_zero]
    exact rfl
  case hy0r6 =>
    refine Or.inl ⟨by rfl, ?_⟩
    intro w hSw
    (try dsimp only at hSw)
    go_simp
    (try with_reducible rfl)
  case hab0r6 => exact fun _ => rfl
  (try simp only [Act.put, List.setIfInBounds_toArray, List.set_cons_zero, List.set_cons_succ])
  refine' anyM_take (i := 2) (oi := ?oi2r6) (v := ?v2r6) [2, 5] (by kernel_rfl) ?hi2r6 (by kernel_rfl) (by kernel_rfl) (by kernel_rfl) (by kernel_rfl) (fun _ _ _ h => h) ?hy2r6 ?hab2r6 hS ?rest2r6
  case hi2r6 =>
    simp only [List.getElem?_toArray, List.getElem?_cons_succ, List.getElem?_cons_zero]
    exact rfl
  case hy2r6 =>
    refine Or.inl ⟨by rfl, ?_⟩
    intro w hSw
    (try dsimp only at hSw)
    go_simp
    (try with_reducible rfl)
  case hab2r6 => exact fun _ => rfl
  (try simp only [Act.put, List.setIfInBounds_toArray, List.set_cons_zero, List.set_cons_succ])
  have pD := (show Blk (World.drew _) _ _ _ from pK3)
  clear pK3
  have qD := (show Blk (World.drew _) _ _ _ from qK3)
  clear qK3
  have La_D := (show Labs (World.drew _).heap.size (World.drew _) _ _ from La_3)
  clear La_3
  have Lb_D := (show Labs (World.drew _).heap.size (World.drew _) _ _ from Lb_3)
  clear Lb_3
  have B_D := B_3.drew
  clear B_3
  refine' anyM_only (i := 1) (o := ?oo1r6) (by kernel_rfl) (by decide) ?ho1r6 ?hw1r6 (fun K hK => ?st1r6)
  case ho1r6 =>
    simp only [List.getElem?_toArray, List.getElem?_cons_succ, List.getElem?_cons_zero]
    exact rfl
  case hw1r6 => rfl
  go_simp
  refine ⟨trivial, ?_⟩
  gi_at_call 8
  refine (callsIn_wide.2 (OA.out _ La_D)).mono ?_
  rintro e u5 ⟨v2, rfl, Lv2_0, hb⟩
  have pK5 := blk_on pD hb
  clear pD
  have qK5 := blk_on qD hb
  clear qD
  have La_5 := labs_on La_D hb
  clear La_D
  have Lb_5 := labs_on Lb_D hb
  clear Lb_D
  have B_5 := B_D.trans (hb.mono B_D.size)
  clear B_D
  clear hb
  obtain ⟨s2, n2, c2, rfl⟩ := slice_of_labs6 Lv2_0
  have p0 := (blk_at pK5).cell 0 _ rfl
  have p1 := (blk_at pK5).cell 1 _ rfl
  have p2 := (blk_at pK5).cell 2 _ rfl
  have p3 := (blk_at pK5).cell 3 _ rfl
  have p4 := (blk_at pK5).cell 4 _ rfl
  have q0 := (blk_at qK5).cell 0 _ rfl
  have q1 := (blk_at qK5).cell 1 _ rfl
  have q2 := (blk_at qK5).cell 2 _ rfl
  have q3 := (blk_at qK5).cell 3 _ rfl
  have q4 := (blk_at qK5).cell 4 _ rfl
  go_simp
  refine hK _ _ ⟨p0, p1, p2, p3, p4, q0, q1, q2, q3, q4⟩ ?_
  clear hK K hS
  have hS := And.intro p0 (And.intro p1 (And.intro p2 (And.intro p3 (And.intro p4 (And.intro q0 (And.intro q1 (And.intro q2 (And.intro q3 (q4)))))))))
  clear p0 p1 p2 p3 p4 q0 q1 q2 q3 q4
  (try simp only [Act.put, List.setIfInBounds_toArray, List.set_cons_zero, List.set_cons_succ])
  clear Lv2_0
  refine' anyM_only (i := 3) (o := ?oo3r6) (by kernel_rfl) (by decide) ?ho3r6 ?hw3r6 (fun K hK => ?st3r6)
  case ho3r6 =>
    simp only [List.getElem?_toArray, List.getElem?_cons_succ, List.getElem?_cons_zero]
    exact rfl
  case hw3r6 => rfl
  go_simp
  refine ⟨trivial, ?_⟩
  gi_at_call 8
  refine (callsIn_wide.2 (OB.out _ Lb_5)).mono ?_
  rintro e u6 ⟨v3, rfl, Lv3_0, hb⟩
  have pK6 := blk_on pK5 hb
  clear pK5
  have qK6 := blk_on qK5 hb
  clear qK5
  have La_6 := labs_on La_5 hb
  clear La_5
  have Lb_6 := labs_on Lb_5 hb
  clear Lb_5
  have B_6 := B_5.trans (hb.mono B_5.size)
  clear B_5
  clear hb
  obtain ⟨s3, n3, c3, rfl⟩ := slice_of_labs6 Lv3_0
  have p0 := (blk_at pK6).cell 0 _ rfl
  have p1 := (blk_at pK6).cell 1 _ rfl
  have p2 := (blk_at pK6).cell 2 _ rfl
  have p3 := (blk_at pK6).cell 3 _ rfl
  have p4 := (blk_at pK6).cell 4 _ rfl
  have q0 := (blk_at qK6).cell 0 _ rfl
  have q1 := (blk_at qK6).cell 1 _ rfl
  have q2 := (blk_at qK6).cell 2 _ rfl
  have q3 := (blk_at qK6).cell 3 _ rfl
  have q4 := (blk_at qK6).cell 4 _ rfl
  go_simp
  refine hK _ _ ⟨p0, p1, p2, p3, p4, q0, q1, q2, q3, q4⟩ ?_
  clear hK K hS
  have hS := And.intro p0 (And.intro p1 (And.intro p2 (And.intro p3 (And.intro p4 (And.intro q0 (And.intro q1 (And.intro q2 (And.intro q3 (q4)))))))))
  clear p0 p1 p2 p3 p4 q0 q1 q2 q3 q4
  (try simp only [Act.put, List.setIfInBounds_toArray, List.set_cons_zero, List.set_cons_succ])
  clear Lv3_0
  refine' anyM_only (i := 4) (o := ?oo4r6) (by kernel_rfl) (by decide) ?ho4r6 ?hw4r6 (fun K hK => ?st4r6)
  case ho4r6 =>
    simp only [List.getElem?_toArray, List.getElem?_cons_succ, List.getElem?_cons_zero]
    exact rfl
  case hw4r6 => rfl
  go_simp
  refine ⟨trivial, ?_⟩
  gi_at_call 9
  refine (callsIn_wide.2 (RC.out _ _ _)).mono ?_
  rintro e u7 ⟨rfl, hb⟩
  have pK7 := blk_on pK6 hb
  clear pK6
  have qK7 := blk_on qK6 hb
  clear qK6
  have La_7 := labs_on La_6 hb
  clear La_6
  have Lb_7 := labs_on Lb_6 hb
  clear Lb_6
  have B_7 := B_6.trans (hb.mono B_6.size)
  clear B_6
  clear hb
  have p0 := (blk_at pK7).cell 0 _ rfl
  have p1 := (blk_at pK7).cell 1 _ rfl
  have p2 := (blk_at pK7).cell 2 _ rfl
  have p3 := (blk_at pK7).cell 3 _ rfl
  have p4 := (blk_at pK7).cell 4 _ rfl
  have q0 := (blk_at qK7).cell 0 _ rfl
  have q1 := (blk_at qK7).cell 1 _ rfl
  have q2 := (blk_at qK7).cell 2 _ rfl
  have q3 := (blk_at qK7).cell 3 _ rfl
  have q4 := (blk_at qK7).cell 4 _ rfl
  go_simp
  refine hK _ _ ⟨p0, p1, p2, p3, p4, q0, q1, q2, q3, q4⟩ ?_
  clear hK K hS
  have hS := And.intro p0 (And.intro p1 (And.intro p2 (And.intro p3 (And.intro p4 (And.intro q0 (And.intro q1 (And.intro q2 (And.intro q3 (q4)))))))))
  clear p0 p1 p2 p3 p4 q0 q1 q2 q3 q4
  (try simp only [Act.put, List.setIfInBounds_toArray, List.set_cons_zero, List.set_cons_succ])
  refine' anyM_last (o := ?oo5r6) (by kernel_rfl) ?ho5r6 ?hw5r6 (fun K hK => ?st5r6)
  case ho5r6 =>
    simp only [List.getElem?_toArray, List.getElem?_cons_succ, List.getElem?_cons_zero]
    exact rfl
  case hw5r6 => rfl
  go_simp
  refine hK _ _ ?_
  clear hK K hS
  refine anyIn_done (by kernel_rfl) (NoPanic.normal ?_) _
  have p0 := (blk_at pK7).cell 0 _ rfl
  have p1 := (blk_at pK7).cell 1 _ rfl
  have p2 := (blk_at pK7).cell 2 _ rfl
  have p3 := (blk_at pK7).cell 3 _ rfl
  have p4 := (blk_at pK7).cell 4 _ rfl
  have q0 := (blk_at qK7).cell 0 _ rfl
  have q1 := (blk_at qK7).cell 1 _ rfl
  have q2 := (blk_at qK7).cell 2 _ rfl
  have q3 := (blk_at qK7).cell 3 _ rfl
  have q4 := (blk_at qK7).cell 4 _ rfl
  gi_wp2
  refine ⟨trivial, ?_⟩
  gi_at_call 10
  refine (callsIn_wide.2 (CK.out _ La_7)).mono ?_
  rintro e u8 ⟨rfl, hb⟩
  clear p0 p1 p2 p3 p4 q0 q1 q2 q3 q4
  have pK8 := blk_on pK7 hb
  clear pK7
  have qK8 := blk_on qK7 hb
  clear qK7
  have La_8 := labs_on La_7 hb
  clear La_7
  have Lb_8 := labs_on Lb_7 hb
  clear Lb_7
  have B_8 := B_7.trans (hb.mono B_7.size)
  clear B_7
  clear hb
  have p0 := (blk_at pK8).cell 0 _ rfl
  have p1 := (blk_at pK8).cell 1 _ rfl
  have p2 := (blk_at pK8).cell 2 _ rfl
  have p3 := (blk_at pK8).cell 3 _ rfl
  have p4 := (blk_at pK8).cell 4 _ rfl
  have q0 := (blk_at qK8).cell 0 _ rfl
  have q1 := (blk_at qK8).cell 1 _ rfl
  have q2 := (blk_at qK8).cell 2 _ rfl
  have q3 := (blk_at qK8).cell 3 _ rfl
  have q4 := (blk_at qK8).cell 4 _ rfl
  gi_wp2
  refine ⟨trivial, ?_⟩
  gi_at_call 11
  refine (callsIn_wide.2 (CA.out _ _ _)).mono ?_
  rintro e u9 ⟨rfl, hb⟩
  clear p0 p1 p2 p3 p4 q0 q1 q2 q3 q4
  have pK9 := blk_on pK8 hb
  clear pK8
  have qK9 := blk_on qK8 hb
  clear qK8
  have La_9 := labs_on La_8 hb
  clear La_8
  have Lb_9 := labs_on Lb_8 hb
  clear Lb_8
  have B_9 := B_8.trans (hb.mono B_8.size)
  clear B_8
  clear hb
  have p0 := (blk_at pK9).cell 0 _ rfl
  have p1 := (blk_at pK9).cell 1 _ rfl
  have p2 := (blk_at pK9).cell 2 _ rfl
  have p3 := (blk_at pK9).cell 3 _ rfl
  have p4 := (blk_at pK9).cell 4 _ rfl
  have q0 := (blk_at qK9).cell 0 _ rfl
  have q1 := (blk_at qK9).cell 1 _ rfl
  have q2 := (blk_at qK9).cell 2 _ rfl
  have q3 := (blk_at qK9).cell 3 _ rfl
  have q4 := (blk_at qK9).cell 4 _ rfl
  gi_wp2
  refine ⟨trivial, ?_⟩
  gi_at_call 11
  refine (callsIn_wide.2 (CB.out _ _ _)).mono ?_
  rintro e u10 ⟨rfl, hb⟩
  clear p0 p1 p2 p3 p4 q0 q1 q2 q3 q4
  have pK10 := blk_on pK9 hb
  clear pK9
  have qK10 := blk_on qK9 hb
  clear qK9
  have La_10 := labs_on La_9 hb
  clear La_9
  have Lb_10 := labs_on Lb_9 hb
  clear Lb_9
  have B_10 := B_9.trans (hb.mono B_9.size)
  clear B_9
  clear hb
  have p0 := (blk_at pK10).cell 0 _ rfl
  have p1 := (blk_at pK10).cell 1 _ rfl
  have p2 := (blk_at pK10).cell 2 _ rfl
  have p3 := (blk_at pK10).cell 3 _ rfl
  have p4 := (blk_at pK10).cell 4 _ rfl
  have q0 := (blk_at qK10).cell 0 _ rfl
  have q1 := (blk_at qK10).cell 1 _ rfl
  have q2 := (blk_at qK10).cell 2 _ rfl
  have q3 := (blk_at qK10).cell 3 _ rfl
  have q4 := (blk_at qK10).cell 4 _ rfl
  by_cases h0 : ev = 0
  · subst h0
    have PB := PA.out (Eq.refl (0 : Int))
    have PB := Lib.hid PB
    gi_wp2
    refine ⟨trivial, ?_⟩
    gi_at_call 12
    refine (callsIn_wide.2 (TX.out _ B_10 La_10)).mono ?_
    rintro e u11 ⟨rfl, hb⟩
    clear p0 p1 p2 p3 p4 q0 q1 q2 q3 q4
    have pK11 := blk_on pK10 hb
    clear pK10
    have qK11 := blk_on qK10 hb
    clear qK10
    have La_11 := labs_on La_10 hb
    clear La_10
    have Lb_11 := labs_on Lb_10 hb
    clear Lb_10
    have B_11 := B_10.trans (hb.mono B_10.size)
    clear B_10
    clear hb
    have p0 := (blk_at pK11).cell 0 _ rfl
    have p1 := (blk_at pK11).cell 1 _ rfl
    have p2 := (blk_at pK11).cell 2 _ rfl
    have p3 := (blk_at pK11).cell 3 _ rfl
    have p4 := (blk_at pK11).cell 4 _ rfl
    have q0 := (blk_at qK11).cell 0 _ rfl
    have q1 := (blk_at qK11).cell 1 _ rfl
    have q2 := (blk_at qK11).cell 2 _ rfl
    have q3 := (blk_at qK11).cell 3 _ rfl
    have q4 := (blk_at qK11).cell 4 _ rfl
    gi_wp2
    refine ⟨trivial, ?_⟩
    gi_at_call 13
    refine (callsIn_wide.2 (PB.out _ B_11)).mono ?_
    rintro e u12 ⟨vx, rfl, Lx_0, hb⟩
    clear p0 p1 p2 p3 p4 q0 q1 q2 q3 q4
    have pK12 := blk_on pK11 hb
    clear pK11
    have qK12 := blk_on qK11 hb
    clear qK11
    have La_12 := labs_on La_11 hb
    clear La_11
    have Lb_12 := labs_on Lb_11 hb
    clear Lb_11
    have B_12 := B_11.trans (hb.mono B_11.size)
    clear B_11
    clear hb
    obtain ⟨sx, nx, cx, rfl⟩ := slice_of_labs6 Lx_0
    have hb := below_cells (w := u12) (.cells #[.slice sx nx cx, .int .i64 a1, .int .i64 a2, .int .i64 a3, .int .i64 a4] 25)
    have X1 := blk_new u12 #[.slice sx nx cx, .int .i64 a1, .int .i64 a2, .int .i64 a3, .int .i64 a4] 25
    have pK13 := blk_on pK12 hb
    clear pK12
    have qK13 := blk_on qK12 hb
    clear qK12
    have La_13 := labs_on La_12 hb
    clear La_12
    have Lb_13 := labs_on Lb_12 hb
    clear Lb_12
    have Lx_13 := labs_on Lx_0 hb
    clear Lx_0
    have B_13 := B_12.trans (hb.mono B_12.size)
    clear B_12
    clear hb
    obtain ⟨bx, hbx⟩ : ∃ bx, u12.heap.size = bx := ⟨_, rfl⟩
    rw [hbx] at X1
    gi_wp2
    clear hbx
    generalize u12.alloc (.cells #[.slice sx nx cx, .int .i64 a1, .int .i64 a2, .int .i64 a3, .int .i64 a4] 25) = W3 at *
    have p0 := (blk_at pK13).cell 0 _ rfl
    have p1 := (blk_at pK13).cell 1 _ rfl
    have p2 := (blk_at pK13).cell 2 _ rfl
    have p3 := (blk_at pK13).cell 3 _ rfl
    have p4 := (blk_at pK13).cell 4 _ rfl
    have x0 := (blk_at X1).cell 0 _ rfl
    have x1 := (blk_at X1).cell 1 _ rfl
    have x2 := (blk_at X1).cell 2 _ rfl
    have x3 := (blk_at X1).cell 3 _ rfl
    have x4 := (blk_at X1).cell 4 _ rfl
    refine wpIn_mono ?_ NoPanic.imp
    refine region_anyM (S := fun u => u.cell? ⟨w.heap.size, 0, none⟩ = some (.slice sa na ca) ∧ u.cell? ⟨w.heap.size, 1, none⟩ = some (.int .i64 a1) ∧ u.cell? ⟨w.heap.size, 2, none⟩ = some (.int .i64 a2) ∧ u.cell? ⟨w.heap.size, 3, none⟩ = some (.int .i64 a3) ∧ u.cell? ⟨w.heap.size, 4, none⟩ = some (.int .i64 a4) ∧ u.cell? ⟨bx, 0, none⟩ = some (.slice sx nx cx) ∧ u.cell? ⟨bx, 1, none⟩ = some (.int .i64 a1) ∧ u.cell? ⟨bx, 2, none⟩ = some (.int .i64 a2) ∧ u.cell? ⟨bx, 3, none⟩ = some (.int .i64 a3) ∧ u.cell? ⟨bx, 4, none⟩ = some (.int .i64 a4)) 16 (by kernel_rfl) (fun hS => ?_) ⟨p0, p1, p2, p3, p4, x0, x1, x2, x3, x4⟩
    clear p0 p1 p2 p3 p4 x0 x1 x2 x3 x4
    refine' anyM_take (i := 0) (oi := ?oi0r9) (v := ?v0r9) [0, 16] (by kernel_rfl) ?hi0r9 (by kernel_rfl) (by kernel_rfl) (by kernel_rfl) (by kernel_rfl) (fun _ _ _ h => h) ?hy0r9 ?hab0r9 hS ?rest0r9
    case hi0r9 =>
      simp only [List.getElem?_toArray, List.getElem?_cons_succ, List.getElem?_cons_zero]
      exact rfl
    case hy0r9 =>
      refine Or.inl ⟨by rfl, ?_⟩
      intro w hSw
      (try dsimp only at hSw)
      go_simp
      (try with_reducible rfl)
    case hab0r9 => exact fun _ => rfl
    (try simp only [Act.put, List.setIfInBounds_toArray, List.set_cons_zero, List.set_cons_succ])
    refine' anyM_take (i := 1) (oi := ?oi1r9) (v := ?v1r9) [1, 16] (by kernel_rfl) ?hi1r9 (by kernel_rfl) (by kernel_rfl) (by kernel_rfl) (by kernel_rfl) (fun _ _ _ h => h) ?hy1r9 ?hab1r9 hS ?rest1r9
    case hi1r9 =>
      simp only [List.getElem?_toArray, List.getElem?_cons_succ, List.getElem?_cons_zero]
      exact rfl
    case hy1r9 =>
      refine Or.inl ⟨by rfl, ?_⟩
      intro w hSw
      (try dsimp only at hSw)
      go_simp
      (try with_reducible rfl)
    case hab1r9 => exact fun _ => rfl
    (try simp only [Act.put, List.setIfInBounds_toArray, List.set_cons_zero, List.set_cons_succ])
    have pE := (show Blk (World.drew _) _ _ _ from pK13)
    clear pK13
    have qE := (show Blk (World.drew _) _ _ _ from qK13)
    clear qK13
    have xE := (show Blk (World.drew _) _ _ _ from X1)
    clear X1
    have La_E := (show Labs (World.drew _).heap.size (World.drew _) _ _ from La_13)
    clear La_13
    have Lb_E := (show Labs (World.drew _).heap.size (World.drew _) _ _ from Lb_13)
    clear Lb_13
    have Lx_E := (show Labs (World.drew _).heap.size (World.drew _) _ _ from Lx_13)
    clear Lx_13
    have B_E := B_13.drew
    clear B_13
    refine' anyM_only (i := 2) (o := ?oo2r9) (by kernel_rfl) (by decide) ?ho2r9 ?hw2r9 (fun K hK => ?st2r9)
    case ho2r9 =>
      simp only [List.getElem?_toArray, List.getElem?_cons_succ, List.getElem?_cons_zero]
      exact rfl
    case hw2r9 => rfl
    go_simp
    refine ⟨trivial, ?_⟩
    gi_at_call 8
    refine (callsIn_wide.2 (OA.out _ La_E)).mono ?_
    rintro e u14 ⟨v4, rfl, Lv4_0, hb⟩
    have pK14 := blk_on pE hb
    clear pE
    have qK14 := blk_on qE hb
    clear qE
    have xK14 := blk_on xE hb
    clear xE
    have La_14 := labs_on La_E hb
    clear La_E
    have Lb_14 := labs_on Lb_E hb
    clear Lb_E
    have Lx_14 := labs_on Lx_E hb
    clear Lx_E
    have B_14 := B_E.trans (hb.mono B_E.size)
    clear B_E
    clear hb
    obtain ⟨s4, n4, c4, rfl⟩ := slice_of_labs6 Lv4_0
    have p0 := (blk_at pK14).cell 0 _ rfl
    have p1 := (blk_at pK14).cell 1 _ rfl
    have p2 := (blk_at pK14).cell 2 _ rfl
    have p3 := (blk_at pK14).cell 3 _ rfl
    have p4 := (blk_at pK14).cell 4 _ rfl
    have x0 := (blk_at xK14).cell 0 _ rfl
    have x1 := (blk_at xK14).cell 1 _ rfl
    have x2 := (blk_at xK14).cell 2 _ rfl
    have x3 := (blk_at xK14).cell 3 _ rfl
    have x4 := (blk_at xK14).cell 4 _ rfl
    go_simp
    refine hK _ _ ⟨p0, p1, p2, p3, p4, x0, x1, x2, x3, x4⟩ ?_
    clear hK K hS
    have hS := And.intro p0 (And.intro p1 (And.intro p2 (And.intro p3 (And.intro p4 (And.intro x0 (And.intro x1 (And.intro x2 (And.intro x3 (x4)))))))))
    clear p0 p1 p2 p3 p4 x0 x1 x2 x3 x4
    (try simp only [Act.put, List.setIfInBounds_toArray, List.set_cons_zero, List.set_cons_succ])
    refine' anyM_only (i := 3) (o := ?oo3r9) (by kernel_rfl) (by decide) ?ho3r9 ?hw3r9 (fun K hK => ?st3r9)
    case ho3r9 =>
      simp only [List.getElem?_toArray, List.getElem?_cons_succ, List.getElem?_cons_zero]
      exact rfl
    case hw3r9 => rfl
    go_simp
    refine ⟨trivial, ?_⟩
    gi_at_call 14
    refine (callsIn_wide.2 (RL.out _ _ _ _ Lv4_0)).mono ?_
    rintro e u15 ⟨rfl, hb⟩
    have pK15 := blk_on pK14 hb
    clear pK14
    have qK15 := blk_on qK14 hb
    clear qK14
    have xK15 := blk_on xK14 hb
    clear xK14
    have La_15 := labs_on La_14 hb
    clear La_14
    have Lb_15 := labs_on Lb_14 hb
    clear Lb_14
    have Lx_15 := labs_on Lx_14 hb
    clear Lx_14
    have B_15 := B_14.trans (hb.mono B_14.size)
    clear B_14
    clear hb
    have p0 := (blk_at pK15).cell 0 _ rfl
    have p1 := (blk_at pK15).cell 1 _ rfl
    have p2 := (blk_at pK15).cell 2 _ rfl
    have p3 := (blk_at pK15).cell 3 _ rfl
    have p4 := (blk_at pK15).cell 4 _ rfl
    have x0 := (blk_at xK15).cell 0 _ rfl
    have x1 := (blk_at xK15).cell 1 _ rfl
    have x2 := (blk_at xK15).cell 2 _ rfl
    have x3 := (blk_at xK15).cell 3 _ rfl
    have x4 := (blk_at xK15).cell 4 _ rfl
    go_simp
    refine hK _ _ ⟨p0, p1, p2, p3, p4, x0, x1, x2, x3, x4⟩ ?_
    clear hK K hS
    have hS := And.intro p0 (And.intro p1 (And.intro p2 (And.intro p3 (And.intro p4 (And.intro x0 (And.intro x1 (And.intro x2 (And.intro x3 (x4)))))))))
    clear p0 p1 p2 p3 p4 x0 x1 x2 x3 x4
    (try simp only [Act.put, List.setIfInBounds_toArray, List.set_cons_zero, List.set_cons_succ])
    clear Lv4_0
    refine' anyM_take (i := 4) (oi := ?oi4r9) (v := ?v4r9) [4, 16] (by kernel_rfl) ?hi4r9 (by kernel_rfl) (by kernel_rfl) (by kernel_rfl) (by kernel_rfl) (fun _ _ _ h => h) ?hy4r9 ?hab4r9 hS ?rest4r9
    case hi4r9 =>
      simp only [List.getElem?_toArray, List.getElem?_cons_succ, List.getElem?_cons_zero]
      exact rfl
    case hy4r9 =>
      refine Or.inl ⟨by rfl, ?_⟩
      intro w hSw
      (try dsimp only at hSw)
      go_simp
      (try with_reducible rfl)
    case hab4r9 => exact fun _ => rfl
    (try simp only [Act.put, List.setIfInBounds_toArray, List.set_cons_zero, List.set_cons_succ])
    refine' anyM_take (i := 5) (oi := ?oi5r9) (v := ?v5r9) [5, 16] (by kernel_rfl) ?hi5r9 (by kernel_rfl) (by kernel_rfl) (by kernel_rfl) (by kernel_rfl) (fun _ _ _ h => h) ?hy5r9 ?hab5r9 hS ?rest5r9
    case hi5r9 =>
      simp only [List.getElem?_toArray, List.getElem?_cons_succ, List.getElem?_cons_zero]
      exact rfl
    case hy5r9 =>
      refine Or.inl ⟨by rfl, ?_⟩
      intro w hSw
      (try dsimp only at hSw)
      go_simp
      (try with_reducible rfl)
    case hab5r9 => exact fun _ => rfl
    (try simp only [Act.put, List.setIfInBounds_toArray, List.set_cons_zero, List.set_cons_succ])
    refine' anyM_take (i := 6) (oi := ?oi6r9) (v := ?v6r9) [6, 16] (by kernel_rfl) ?hi6r9 (by kernel_rfl) (by kernel_rfl) (by kernel_rfl) (by kernel_rfl) (fun _ _ _ h => h) ?hy6r9 ?hab6r9 hS ?rest6r9
    case hi6r9 =>
      simp only [List.getElem?_toArray, List.getElem?_cons_succ, List.getElem?_cons_zero]
      exact rfl
    case hy6r9 =>
      refine Or.inl ⟨by rfl, ?_⟩
      intro w hSw
      (try dsimp only at hSw)
      go_simp
      (try with_reducible rfl)
    case hab6r9 => exact fun _ => rfl
    (try simp only [Act.put, List.setIfInBounds_toArray, List.set_cons_zero, List.set_cons_succ])
    refine' anyM_take (i := 7) (oi := ?oi7r9) (v := ?v7r9) [7, 16] (by kernel_rfl) ?hi7r9 (by kernel_rfl) (by kernel_rfl) (by kernel_rfl) (by kernel_rfl) (fun _ _ _ h => h) ?hy7r9 ?hab7r9 hS ?rest7r9
    case hi7r9 =>
      simp only [List.getElem?_toArray, List.getElem?_cons_succ, List.getElem?_cons_zero]
      exact rfl
    case hy7r9 =>
      refine Or.inl ⟨by rfl, ?_⟩
      intro w hSw
      (try dsimp only at hSw)
      go_simp
      (try with_reducible rfl)
    case hab7r9 => exact fun _ => rfl
    (try simp only [Act.put, List.setIfInBounds_toArray, List.set_cons_zero, List.set_cons_succ])
    refine' anyM_take (i := 8) (oi := ?oi8r9) (v := ?v8r9) [8, 16] (by kernel_rfl) ?hi8r9 (by kernel_rfl) (by kernel_rfl) (by kernel_rfl) (by kernel_rfl) (fun _ _ _ h => h) ?hy8r9 ?hab8r9 hS ?rest8r9
    case hi8r9 =>
      simp only [List.getElem?_toArray, List.getElem?_cons_succ, List.getElem?_cons_zero]
      exact rfl
    case hy8r9 =>
      refine Or.inl ⟨by rfl, ?_⟩
      intro w hSw
      (try dsimp only at hSw)
      go_simp
      (try with_reducible rfl)
    case hab8r9 => exact fun _ => rfl
    (try simp only [Act.put, List.setIfInBounds_toArray, List.set_cons_zero, List.set_cons_succ])
    refine' anyM_take (i := 9) (oi := ?oi9r9) (v := ?v9r9) [9, 16] (by kernel_rfl) ?hi9r9 (by kernel_rfl) (by kernel_rfl) (by kernel_rfl) (by kernel_rfl) (fun _ _ _ h => h) ?hy9r9 ?hab9r9 hS ?rest9r9
    case hi9r9 =>
      simp only [List.getElem?_toArray, List.getElem?_cons_succ, List.getElem?_cons_zero]
      exact rfl
    case hy9r9 =>
      refine Or.inl ⟨by rfl, ?_⟩
      intro w hSw
      (try dsimp only at hSw)
      go_simp
      (try with_reducible rfl)
    case hab9r9 => exact fun _ => rfl
    (try simp only [Act.put, List.setIfInBounds_toArray, List.set_cons_zero, List.set_cons_succ])
    refine' anyM_take (i := 10) (oi := ?oi10r9) (v := ?v10r9) [10, 16] (by kernel_rfl) ?hi10r9 (by kernel_rfl) (by kernel_rfl) (by kernel_rfl) (by kernel_rfl) (fun _ _ _ h => h) ?hy10r9 ?hab10r9 hS ?rest10r9
    case hi10r9 =>
      simp only [List.getElem?_toArray, List.getElem?_cons_succ, List.getElem?_cons_zero]
      exact rfl
    case hy10r9 =>
      refine Or.inl ⟨by rfl, ?_⟩
      intro w hSw
      (try dsimp only at hSw)
      go_simp
      (try with_reducible rfl)
    case hab10r9 => exact fun _ => rfl
    (try simp only [Act.put, List.setIfInBounds_toArray, List.set_cons_zero, List.set_cons_succ])
    refine' anyM_take (i := 12) (oi := ?oi12r9) (v := ?v12r9) [12, 16] (by kernel_rfl) ?hi12r9 (by kernel_rfl) (by kernel_rfl) (by kernel_rfl) (by kernel_rfl) (fun _ _ _ h => h) ?hy12r9 ?hab12r9 hS ?rest12r9
    case hi12r9 =>
      simp only [List.getElem?_toArray, List.getElem?_cons_succ, List.getElem?_cons_zero]
      exact rfl
    case hy12r9 =>
      refine Or.inl ⟨by rfl, ?_⟩
      intro w hSw
      (try dsimp only at hSw)
      go_simp
      (try with_reducible rfl)
    case hab12r9 => exact fun _ => rfl
    (try simp only [Act.put, List.setIfInBounds_toArray, List.set_cons_zero, List.set_cons_succ])
    refine' anyM_only (i := 11) (o := ?oo11r9) (by kernel_rfl) (by decide) ?ho11r9 ?hw11r9 (fun K hK => ?st11r9)
    case ho11r9 =>
      simp only [List.getElem?_toArray, List.getElem?_cons_succ, List.getElem?_cons_zero]
      exact rfl
    case hw11r9 => rfl
    go_simp
    refine ⟨trivial, ?_⟩
    gi_at_call 8
    refine (callsIn_wide.2 (OX.out _ _ _ _ Lx_15)).mono ?_
    rintro e u16 ⟨v5, rfl, Lv5_0, hb⟩
    have pK16 := blk_on pK15 hb
    clear pK15
    have qK16 := blk_on qK15 hb
    clear qK15
    have xK16 := blk_on xK15 hb
    clear xK15
    have La_16 := labs_on La_15 hb
    clear La_15
    have Lb_16 := labs_on Lb_15 hb
    clear Lb_15
    have Lx_16 := labs_on Lx_15 hb
    clear Lx_15
    have B_16 := B_15.trans (hb.mono B_15.size)
    clear B_15
    clear hb
    obtain ⟨s5, n5, c5, rfl⟩ := slice_of_labs6 Lv5_0
    have p0 := (blk_at pK16).cell 0 _ rfl
    have p1 := (blk_at pK16).cell 1 _ rfl
    have p2 := (blk_at pK16).cell 2 _ rfl
    have p3 := (blk_at pK16).cell 3 _ rfl
    have p4 := (blk_at pK16).cell 4 _ rfl
    have x0 := (blk_at xK16).cell 0 _ rfl
    have x1 := (blk_at xK16).cell 1 _ rfl
    have x2 := (blk_at xK16).cell 2 _ rfl
    have x3 := (blk_at xK16).cell 3 _ rfl
    have x4 := (blk_at xK16).cell 4 _ rfl
    go_simp
    refine hK _ _ ⟨p0, p1, p2, p3, p4, x0, x1, x2, x3, x4⟩ ?_
    clear hK K hS
    have hS := And.intro p0 (And.intro p1 (And.intro p2 (And.intro p3 (And.intro p4 (And.intro x0 (And.intro x1 (And.intro x2 (And.intro x3 (x4)))))))))
    clear p0 p1 p2 p3 p4 x0 x1 x2 x3 x4
    (try simp only [Act.put, List.setIfInBounds_toArray, List.set_cons_zero, List.set_cons_succ])
    refine' anyM_only (i := 13) (o := ?oo13r9) (by kernel_rfl) (by decide) ?ho13r9 ?hw13r9 (fun K hK => ?st13r9)
    case ho13r9 =>
      simp only [List.getElem?_toArray, List.getElem?_cons_succ, List.getElem?_cons_zero]
      exact rfl
    case hw13r9 => rfl
    go_simp
    refine ⟨trivial, ?_⟩
    gi_at_call 8
    refine (callsIn_wide.2 (OA.out _ La_16)).mono ?_
    rintro e u17 ⟨v6, rfl, Lv6_0, hb⟩
    have pK17 := blk_on pK16 hb
    clear pK16
    have qK17 := blk_on qK16 hb
    clear qK16
    have xK17 := blk_on xK16 hb
    clear xK16
    have La_17 := labs_on La_16 hb
    clear La_16
    have Lb_17 := labs_on Lb_16 hb
    clear Lb_16
    have Lx_17 := labs_on Lx_16 hb
    clear Lx_16
    have Lv5_17 := labs_on Lv5_0 hb
    clear Lv5_0
    have B_17 := B_16.trans (hb.mono B_16.size)
    clear B_16
    clear hb
    obtain ⟨s6, n6, c6, rfl⟩ := slice_of_labs6 Lv6_0
    have p0 := (blk_at pK17).cell 0 _ rfl
    have p1 := (blk_at pK17).cell 1 _ rfl
    have p2 := (blk_at pK17).cell 2 _ rfl
    have p3 := (blk_at pK17).cell 3 _ rfl
    have p4 := (blk_at pK17).cell 4 _ rfl
    have x0 := (blk_at xK17).cell 0 _ rfl
    have x1 := (blk_at xK17).cell 1 _ rfl
    have x2 := (blk_at xK17).cell 2 _ rfl
    have x3 := (blk_at xK17).cell 3 _ rfl
    have x4 := (blk_at xK17).cell 4 _ rfl
    go_simp
    refine hK _ _ ⟨p0, p1, p2, p3, p4, x0, x1, x2, x3, x4⟩ ?_
    clear hK K hS
    have hS := And.intro p0 (And.intro p1 (And.intro p2 (And.intro p3 (And.intro p4 (And.intro x0 (And.intro x1 (And.intro x2 (And.intro x3 (x4)))))))))
    clear p0 p1 p2 p3 p4 x0 x1 x2 x3 x4
    (try simp only [Act.put, List.setIfInBounds_toArray, List.set_cons_zero, List.set_cons_succ])
    refine' anyM_only (i := 14) (o := ?oo14r9) (by kernel_rfl) (by decide) ?ho14r9 ?hw14r9 (fun K hK => ?st14r9)
    case ho14r9 =>
      simp only [List.getElem?_toArray, List.getElem?_cons_succ, List.getElem?_cons_zero]
      exact rfl
    case hw14r9 => rfl
    go_simp
    refine ⟨trivial, ?_⟩
    gi_at_call 15
    refine (callsIn_wide.2 (SY.out _ _ _ _ _ _ _ Lv5_17 Lv6_0)).mono ?_
    rintro e u18 ⟨rfl, hb⟩
    have pK18 := blk_on pK17 hb
    clear pK17
    have qK18 := blk_on qK17 hb
    clear qK17
    have xK18 := blk_on xK17 hb
    clear xK17
    have La_18 := labs_on La_17 hb
    clear La_17
    have Lb_18 := labs_on Lb_17 hb
    clear Lb_17
    have Lx_18 := labs_on Lx_17 hb
    clear Lx_17
    have Lv5_18 := labs_on Lv5_17 hb
    clear Lv5_17
    have B_18 := B_17.trans (hb.mono B_17.size)
    clear B_17
    clear hb
    have p0 := (blk_at pK18).cell 0 _ rfl
    have p1 := (blk_at pK18).cell 1 _ rfl
    have p2 := (blk_at pK18).cell 2 _ rfl
    have p3 := (blk_at pK18).cell 3 _ rfl
    have p4 := (blk_at pK18).cell 4 _ rfl
    have x0 := (blk_at xK18).cell 0 _ rfl
    have x1 := (blk_at xK18).cell 1 _ rfl
    have x2 := (blk_at xK18).cell 2 _ rfl
    have x3 := (blk_at xK18).cell 3 _ rfl
    have x4 := (blk_at xK18).cell 4 _ rfl
    go_simp
    refine hK _ _ ⟨p0, p1, p2, p3, p4, x0, x1, x2, x3, x4⟩ ?_
    clear hK K hS
    have hS := And.intro p0 (And.intro p1 (And.intro p2 (And.intro p3 (And.intro p4 (And.intro x0 (And.intro x1 (And.intro x2 (And.intro x3 (x4)))))))))
    clear p0 p1 p2 p3 p4 x0 x1 x2 x3 x4
    (try simp only [Act.put, List.setIfInBounds_toArray, List.set_cons_zero, List.set_cons_succ])
    refine' anyM_take (i := 15) (oi := ?oi15r9) (v := ?v15r9) [15, 16] (by kernel_rfl) ?hi15r9 (by kernel_rfl) (by kernel_rfl) (by kernel_rfl) (by kernel_rfl) (fun _ _ _ h => h) ?hy15r9 ?hab15r9 hS ?rest15r9
    case hi15r9 =>
      simp only [List.getElem?_toArray, List.getElem?_cons_succ, List.getElem?_cons_zero]
      exact rfl
    case hy15r9 =>
      refine Or.inl ⟨by rfl, ?_⟩
      intro w hSw
      (try dsimp only at hSw)
      go_simp
      (try with_reducible rfl)
    case hab15r9 => exact fun _ => rfl
    (try simp only [Act.put, List.setIfInBounds_toArray, List.set_cons_zero, List.set_cons_succ])
    refine' anyM_last (o := ?oo16r9) (by kernel_rfl) ?ho16r9 ?hw16r9 (fun K hK => ?st16r9)
    case ho16r9 =>
      simp only [List.getElem?_toArray, List.getElem?_cons_succ, List.getElem?_cons_zero]
      exact rfl
    case hw16r9 => rfl
    go_simp
    refine hK _ _ ?_
    clear hK K hS
    refine anyIn_done (by kernel_rfl) (NoPanic.normal ?_) _
    gi_wp2
    go_ret
    exact ⟨rfl, B_18⟩
  · gi_wp2
    go_ret
    exact ⟨rfl, B_10⟩
theorem any_law (sa sb : Option Addr) (na ca nb cb : Nat) (za zb : List Lab) (la : za.length ≤ 9223372036854775807) (ba : ∀ x ∈ za, x.1.length ≤ 9223372036854775807 ∧ x.2.length ≤ 9223372036854775807) (lb : zb.length ≤ 9223372036854775807) (bb : ∀ x ∈ zb, x.1.length ≤ 9223372036854775807 ∧ x.2.length ≤ 9223372036854775807) (a1 a2 a3 a4 b1 b2 b3 b4 : Int) (k0 : I64 a1) (k1 : I64 a2) (k2 : I64 a3) (k3 : I64 a4) (w : World) (ht : Tab w) (he : ErrsOk w) (LA : LabsG w.heap.size w (.slice sa na ca) za) (LB : LabsG w.heap.size w (.slice sb nb cb) zb) :
    Calls Tryz.prog 3 #[.agg #[.slice sa na ca, .int .i64 a1, .int .i64 a2, .int .i64 a3, .int .i64 a4], .agg #[.slice sb nb cb, .int .i64 b1, .int .i64 b2, .int .i64 b3, .int .i64 b4]] w fun e w' => e = .returned (.bool true) ∧ Below w.heap.size w w' := by
  by_cases ha : fewR za = true
  · by_cases hb : fewR zb = true
    · obtain ⟨ya, rfl, h1⟩ := few_short ha
      obtain ⟨yb, rfl, h2⟩ := few_short hb
      exact any_both sa sb na ca nb cb a1 a2 a3 a4 b1 b2 b3 b4 ya yb h1 h2 ha hb k0 k1 k2 k3 w ht he LA.toS LB.toS
    · exact any_few1 sa sb na ca nb cb a1 a2 a3 a4 b1 b2 b3 b4 za zb la ba lb bb w ht he LA LB ha (by simpa using hb)
  · exact any_few0 sa sb na ca nb cb a1 a2 a3 a4 b1 b2 b3 b4 za zb la ba lb bb w ht he LA LB (by simpa using ha)
end Go.Proofs.YtgldieboflmnhaaGreatDoor
