/- Matchers: mathematics. -/
import Derived.Test.YthdoniefjmphaaaGreatDoorMatch
import Derived.Test.YthdoniefjmphaaaGreatDoorMtV
import Derived.Test.YthdoniefjmphaaaGreatDoorCheck
import Derived.Test.YthdoniefjmphaaaGreatDoorTxt
namespace Go.Proofs.YthdoniefjmphaaaGreatDoor
open Go Go.Proofs Go.RowKit Go.Shelf
set_option maxRecDepth 100000
theorem comp_bad {l : List UInt8} {er j : Nat} (h : Rx.compileF l = .bad er j) : er ≠ 0 := by
 unfold Rx.compileF at h;by_cases hl : 64 < l.length
 ·
  rw [if_pos hl] at h; cases h; decide
 rw [if_neg hl] at h;have g := Rx.choice_goes (inner := Rx.innerF l 9) (l := l) (fun k hk => Rx.inner_goes 9 k hk) (k := 0) (Nat.zero_le _);cases hc : Rx.choiceF (Rx.innerF l 9) l 0 with
 | bad e i => rw [hc] at h g; cases h; have := g.2.2; omega
 | ok p i =>
  rw [hc] at h;dsimp only at h;by_cases hi : i < l.length
  ·
   rw [if_pos hi] at h; cases h; decide
  ·
   rw [if_neg hi] at h; cases h
def isPat (o : List UInt8) : Bool := o == [61, 126] || o == [33, 126]
def isOpB (o : List UInt8) : Bool := o == [61] || o == [33, 61] || isPat o
def compE (v : List UInt8) : Int := match Rx.compileF v with
 | .ok _ _ => 0
 | .bad er _ => (er : Int)
def chk1 (x : Itm) : Int := if nameR x.1 = false then 5 else if isOpB x.2.1 = false then 2 else if (!x.2.2.isEmpty && !valueR x.2.2) = true then 1 else if isPat x.2.1 = true then compE x.2.2 else 0
def chkM : List SItm → Int
 | [] => 0
 | x :: t => if chk1 x.1 ≠ 0 then chk1 x.1 else chkM t
def checkMR (zs : List SItm) : Int := if 8 < zs.length then 4 else chkM zs
theorem chkM_app (p q : List SItm) (h : chkM p = 0) : chkM (p ++ q) = chkM q := by
 induction p with
 | nil => rfl
 | cons x t ih =>
  unfold chkM at h;rw [List.cons_append]; conv => lhs; unfold chkM
  by_cases hx : chk1 x.1 ≠ 0
  ·
   rw [if_pos hx] at h; exact absurd h hx
  ·
   rw [if_neg hx] at h ⊢; exact ih h
theorem chkM_pre (p q : List SItm) (h : chkM p ≠ 0) : chkM (p ++ q) = chkM p := by
 induction p with
 | nil => exact absurd rfl h
 | cons x t ih =>
  unfold chkM at h;rw [List.cons_append]; conv => lhs; unfold chkM
  conv => rhs; unfold chkM
  by_cases hx : chk1 x.1 ≠ 0
  ·
   rw [if_pos hx, if_pos hx]
  ·
   rw [if_neg hx] at h ⊢; rw [if_neg hx]; exact ih h
theorem chkM_snoc (p : List SItm) (x : SItm) (h : chkM p = 0) : chkM (p ++ [x]) = chk1 x.1 := by
 rw [chkM_app p [x] h]; unfold chkM chkM;by_cases hx : chk1 x.1 ≠ 0
 ·
  rw [if_pos hx]
 ·
  rw [if_neg hx]; have : chk1 x.1 = 0 := by simpa using hx
  rw [this]
def takesR (p s : List UInt8) : Bool := match Rx.compileF p with
 | .ok q _ => Rx.matchN q s
 | .bad _ _ => false
def holds1 (x : Itm) (v : List UInt8) : Bool :=
 if x.2.1 = [61] then v == x.2.2 else if x.2.1 = [33, 61] then v != x.2.2 else if x.2.1 = [61, 126] then takesR x.2.2 v else if x.2.1 = [33, 126] then !takesR x.2.2 v else false
def holdsR (l : List SItm) (zs : List SLab) : Bool := l.all fun x => holds1 x.1 (getR x.1.1 zs)
theorem holdsR_snoc (p : List SItm) (x : SItm) (zs : List SLab) : holdsR (p ++ [x]) zs = (holdsR p zs && holds1 x.1 (getR x.1.1 zs)) := by unfold holdsR; simp
theorem holdsR_app (p q : List SItm) (zs : List SLab) : holdsR (p ++ q) zs = (holdsR p zs && holdsR q zs) := by unfold holdsR; simp
theorem holdsR_pre (p q : List SItm) (zs : List SLab) (h : p <+: q) (hp : holdsR p zs = false) : holdsR q zs = false := by
 obtain ⟨t, rfl⟩ := h;rw [holdsR_app, hp]; rfl
theorem get_len (n : List UInt8) (zs : List SLab) (B : Nat) (h : ∀ y ∈ zs, y.1.2.length ≤ B) : (getR n zs).length ≤ B := by
 induction zs with
 | nil => simp [getR]
 | cons y t ih =>
  show (if y.1.1 = n then y.1.2 else getR n t).length ≤ B;split
  ·
   exact h y List.mem_cons_self
  ·
   exact ih (fun z hz => h z (List.mem_cons_of_mem _ hz))
end Go.Proofs.YthdoniefjmphaaaGreatDoor
/- match.matches, match.holds, match.check. -/
namespace Go.Proofs.YthdoniefjmphaaaGreatDoor
open Go Go.Proofs Go.RowKit Go.Shelf
set_option maxRecDepth 100000
theorem RxAt.below {base rb : Nat} {s : ByteArray} {l : List UInt8} {p : Rx.Pt} {w w' : World} (h : RxAt base rb s l p w) (hb : Below w.heap.size w w') : RxAt base rb s l p w' := by
 obtain ⟨g, cap, h1, h2, h3⟩ := h;exact ⟨g, cap, h1, h2.below hb, h3.below hb⟩
theorem matches_any (p s : List UInt8) (hp : p.length ≤ 1000) (hs : s.length ≤ 1000) (w : World) (hT : Tab w) :
  Calls Tryz.prog 47 #[.string ⟨p.toArray⟩, .string ⟨s.toArray⟩] w fun e w' => e = .returned (.bool (takesR p s)) ∧ Below w.heap.size w w' := by
 have HC := compile_any ⟨p.toArray⟩ p rfl hp w hT;unfold takesR;cases hc : Rx.compileF p with
 | bad er j =>
  have h0 := comp_bad hc;rw [hc] at HC;have HC := Lib.hid HC;have q0 : ((er : Int) == 0) = false := by rw [beq_eq_false_iff_ne]; omega
  clear hc h0;go_enter Tryz.func47, Tryz.ntmps47
  go_wp2_with fail
  refine (HC.out).mono ?_;rintro e w1 ⟨hb, rfl⟩;go_wp2
  go_ret
  exact ⟨rfl, hb⟩
 | ok q i =>
  rw [hc] at HC;have HC := Lib.hid HC;clear hc;go_enter Tryz.func47, Tryz.ntmps47
  go_wp2_with fail
  refine (HC.out).mono ?_;rintro e w1 ⟨hb, rb, rfl, hge, hX⟩;have HM := Lib.hid (match_any _ rb ⟨s.toArray⟩ _ s p rfl hs q w1 hX);have HB := Lib.hid hb;clear hX hb HC hge;go_wp2_with fail
  refine (HM.out).mono ?_;rintro e w2 ⟨rfl, hb2⟩;go_wp2
  go_ret
  exact ⟨rfl, HB.out.trans (hb2.mono HB.out.size)⟩
set_option maxHeartbeats 4000000 in
theorem holds_any (x : Itm) (v : List UInt8) (hx : x.2.2.length ≤ 1000) (hv : v.length ≤ 1000) (w : World) (hT : Tab w) :
  Calls Tryz.prog 31 #[itmV x, .string ⟨v.toArray⟩] w fun e w' => e = .returned (.bool (holds1 x v)) ∧ Below w.heap.size w w' := by
 obtain ⟨n, o, u⟩ := x;dsimp only at hx;have D := At.nw w [.string ⟨n.toArray⟩, .string ⟨o.toArray⟩, .string ⟨u.toArray⟩] 49;have B := below_cells (w := w) (.cells #[.string ⟨n.toArray⟩, .string ⟨o.toArray⟩, .string ⟨u.toArray⟩] 49);have HM := Lib.hid (matches_any u v hx hv _ (hT.below B));have a0 := D.cell 0 _ rfl;have a1 := D.cell 1 _ rfl;have a2 := D.cell 2 _ rfl;have nD := D.lt;have eo : (⟨o.toArray⟩ : ByteArray).toList = o := by rw [ByteArray.toList_eq]
 have ev : (⟨v.toArray⟩ : ByteArray).toList = v := by rw [ByteArray.toList_eq]
 have eu : (⟨u.toArray⟩ : ByteArray).toList = u := by rw [ByteArray.toList_eq]
 have HB := Lib.hid B;clear B D hT hx hv;unfold itmV;dsimp only;by_cases h1 : o = [61]
 ·
  have R : Hid (holds1 (n, o, u) v = (v == u)) := by unfold Hid holds1; rw [if_pos h1]
  have e1 : (o == [61]) = true := by rw [beq_iff_eq]; exact h1
  clear h1;go_enter Tryz.func31, Tryz.ntmps31
  go_wp2
  go_ret
  exact ⟨by rw [R.out]; rfl, HB.out⟩
 have e1 : (o == [61]) = false := by rw [beq_eq_false_iff_ne]; exact h1
 by_cases h2 : o = [33, 61]
 ·
  have R : Hid (holds1 (n, o, u) v = (v != u)) := by unfold Hid holds1; rw [if_neg h1, if_pos h2]
  have e2 : (o == [33, 61]) = true := by rw [beq_iff_eq]; exact h2
  clear h1 h2;go_enter Tryz.func31, Tryz.ntmps31
  go_wp2
  go_ret
  exact ⟨by rw [R.out]; rfl, HB.out⟩
 have e2 : (o == [33, 61]) = false := by rw [beq_eq_false_iff_ne]; exact h2
 by_cases h3 : o = [61, 126]
 ·
  have R : Hid (holds1 (n, o, u) v = takesR u v) := by unfold Hid holds1; rw [if_neg h1, if_neg h2, if_pos h3]
  have e3 : (o == [61, 126]) = true := by rw [beq_iff_eq]; exact h3
  clear h1 h2 h3;go_enter Tryz.func31, Tryz.ntmps31
  go_wp2_with fail
  refine (HM.out).mono ?_;rintro e w1 ⟨rfl, hb⟩;go_wp2
  go_ret
  exact ⟨by rw [R.out]; rfl, HB.out.trans (hb.mono HB.out.size)⟩
 have e3 : (o == [61, 126]) = false := by rw [beq_eq_false_iff_ne]; exact h3
 by_cases h4 : o = [33, 126]
 ·
  have R : Hid (holds1 (n, o, u) v = !takesR u v) := by unfold Hid holds1; rw [if_neg h1, if_neg h2, if_neg h3, if_pos h4]
  have e4 : (o == [33, 126]) = true := by rw [beq_iff_eq]; exact h4
  clear h1 h2 h3 h4;go_enter Tryz.func31, Tryz.ntmps31
  go_wp2_with fail
  refine (HM.out).mono ?_;rintro e w1 ⟨rfl, hb⟩;go_wp2
  go_ret
  exact ⟨by rw [R.out]; rfl, HB.out.trans (hb.mono HB.out.size)⟩
 have e4 : (o == [33, 126]) = false := by rw [beq_eq_false_iff_ne]; exact h4
 have R : Hid (holds1 (n, o, u) v = false) := by unfold Hid holds1; rw [if_neg h1, if_neg h2, if_neg h3, if_neg h4]
 clear h1 h2 h3 h4;go_enter Tryz.func31, Tryz.ntmps31
 go_wp2
 go_ret
 exact ⟨by rw [R.out]; rfl, HB.out⟩
end Go.Proofs.YthdoniefjmphaaaGreatDoor
/- match.check. -/
namespace Go.Proofs.YthdoniefjmphaaaGreatDoor
open Go Go.Proofs Go.RowKit Go.Shelf
set_option maxRecDepth 100000
theorem op_cases (o : List UInt8) : o = [61] ∨ o = [33, 61] ∨ o = [61, 126] ∨ o = [33, 126] ∨ (o ≠ [61] ∧ o ≠ [33, 61] ∧ o ≠ [61, 126] ∧ o ≠ [33, 126]) := by
 by_cases h1 : o = [61]
 ·
  exact .inl h1
 by_cases h2 : o = [33, 61]
 ·
  exact .inr (.inl h2)
 by_cases h3 : o = [61, 126]
 ·
  exact .inr (.inr (.inl h3))
 by_cases h4 : o = [33, 126]
 ·
  exact .inr (.inr (.inr (.inl h4)))
 exact .inr (.inr (.inr (.inr ⟨h1, h2, h3, h4⟩)))
set_option maxHeartbeats 4000000 in
theorem mcheck_a (n o u : List UInt8) (hx : u.length ≤ 1000) (w : World) (hT : Tab w) (ho : o = [61]) :
  Calls Tryz.prog 26 #[itmV (n, o, u)] w fun e w' => e = .returned (.int .i64 (chk1 (n, o, u))) ∧ Below w.heap.size w w' := by
 have D := At.nw w [.string ⟨n.toArray⟩, .string ⟨o.toArray⟩, .string ⟨u.toArray⟩] 49;have B := below_cells (w := w) (.cells #[.string ⟨n.toArray⟩, .string ⟨o.toArray⟩, .string ⟨u.toArray⟩] 49);have HN := Lib.hid (fun W => name_any n W);have HV := Lib.hid (fun W => value_any u W);have e0 : (o == [61, 126]) = false := by rw [ho]; decide
 have e1 : (o == [33, 126]) = false := by rw [ho]; decide
 have e2 : (o == [61]) = true := by rw [ho]; decide
 have e3 : (o == [33, 61]) = false := by rw [ho]; decide
 have hp : isPat o = false := by unfold isPat; rw [e0, e1]; rfl
 have hq : isOpB o = true := by unfold isOpB; rw [e2, e3, hp]; rfl
 have a0 := D.cell 0 _ rfl;have a1 := D.cell 1 _ rfl;have a2 := D.cell 2 _ rfl;have nD := D.lt;have eo : (⟨o.toArray⟩ : ByteArray).toList = o := by rw [ByteArray.toList_eq]
 have eu : (⟨u.toArray⟩ : ByteArray).toList = u := by rw [ByteArray.toList_eq]
 have HB := Lib.hid B;have HP := Lib.hid hp;have HQ := Lib.hid hq;clear B hT hx ho hp hq;unfold itmV;dsimp only;cases hn : nameR n
 ·
  have R : Hid (chk1 (n, o, u) = 5) := by unfold Hid chk1; rw [if_pos hn]
  have HN := Lib.hid (show ∀ W, _ from fun W => by have h := HN.out W; rw [hn] at h; exact h);clear hn;go_enter Tryz.func26, Tryz.ntmps26
  go_wp2_with fail
  refine (HN.out _).mono ?_;rintro e w1 ⟨rfl, hb⟩;have D1 := D.below hb;have HB := Lib.hid (HB.out.trans (hb.mono HB.out.size));clear hb a0 a1 a2 nD;have a0 := D1.cell 0 _ rfl;have a1 := D1.cell 1 _ rfl;have a2 := D1.cell 2 _ rfl;have nD := D1.lt;go_wp2
  go_ret
  exact ⟨by rw [R.out]; rfl, HB.out⟩
 have HN := Lib.hid (show ∀ W, _ from fun W => by have h := HN.out W; rw [hn] at h; exact h);by_cases hu : u = []
 ·
  have q0 : (u == []) = true := by rw [beq_iff_eq]; exact hu
  have q1 : u.isEmpty = true := by rw [hu]; rfl
  have R : Hid (chk1 (n, o, u) = 0) := by unfold Hid chk1; rw [if_neg (by rw [hn]; simp), if_neg (by rw [HQ.out]; simp), if_neg (by rw [hu]; simp), if_neg (by rw [HP.out]; simp)]
  clear hn hu;go_enter Tryz.func26, Tryz.ntmps26
  go_wp2_with fail
  refine (HN.out _).mono ?_;rintro e w1 ⟨rfl, hb⟩;have D1 := D.below hb;have HB := Lib.hid (HB.out.trans (hb.mono HB.out.size));clear hb a0 a1 a2 nD;have a0 := D1.cell 0 _ rfl;have a1 := D1.cell 1 _ rfl;have a2 := D1.cell 2 _ rfl;have nD := D1.lt;go_wp2
  go_ret
  exact ⟨by rw [R.out]; rfl, HB.out⟩
 have q0 : (u == []) = false := by rw [beq_eq_false_iff_ne]; exact hu
 have q1 : u.isEmpty = false := by cases u with | nil => exact absurd rfl hu | cons a t => rfl
 cases hv : valueR u
 ·
  have HV := Lib.hid (show ∀ W, _ from fun W => by have h := HV.out W; rw [hv] at h; exact h);have R : Hid (chk1 (n, o, u) = 1) := by unfold Hid chk1; rw [if_neg (by rw [hn]; simp), if_neg (by rw [HQ.out]; simp), if_pos (by rw [hv]; simp; exact fun h => hu (by simpa using h))]
  clear hn hv hu;go_enter Tryz.func26, Tryz.ntmps26
  go_wp2_with fail
  refine (HN.out _).mono ?_;rintro e w1 ⟨rfl, hb⟩;have D1 := D.below hb;have HB := Lib.hid (HB.out.trans (hb.mono HB.out.size));clear hb a0 a1 a2 nD;have a0 := D1.cell 0 _ rfl;have a1 := D1.cell 1 _ rfl;have a2 := D1.cell 2 _ rfl;have nD := D1.lt;go_wp2_with fail
  refine (HV.out _).mono ?_;rintro e w2 ⟨rfl, hb⟩;have D2 := D1.below hb;have HB := Lib.hid (HB.out.trans (hb.mono HB.out.size));clear hb a0 a1 a2 nD;have a0 := D2.cell 0 _ rfl;have a1 := D2.cell 1 _ rfl;have a2 := D2.cell 2 _ rfl;have nD := D2.lt;go_wp2
  go_ret
  exact ⟨by rw [R.out]; rfl, HB.out⟩
 have HV := Lib.hid (show ∀ W, _ from fun W => by have h := HV.out W; rw [hv] at h; exact h);have R : Hid (chk1 (n, o, u) = 0) := by unfold Hid chk1; rw [if_neg (by rw [hn]; simp), if_neg (by rw [HQ.out]; simp), if_neg (by rw [hv]; simp), if_neg (by rw [HP.out]; simp)]
 clear hn hu hv;go_enter Tryz.func26, Tryz.ntmps26
 go_wp2_with fail
 refine (HN.out _).mono ?_;rintro e w1 ⟨rfl, hb⟩;have D1 := D.below hb;have HB := Lib.hid (HB.out.trans (hb.mono HB.out.size));clear hb a0 a1 a2 nD;have a0 := D1.cell 0 _ rfl;have a1 := D1.cell 1 _ rfl;have a2 := D1.cell 2 _ rfl;have nD := D1.lt;go_wp2_with fail
 refine (HV.out _).mono ?_;rintro e w2 ⟨rfl, hb⟩;have D2 := D1.below hb;have HB := Lib.hid (HB.out.trans (hb.mono HB.out.size));clear hb a0 a1 a2 nD;have a0 := D2.cell 0 _ rfl;have a1 := D2.cell 1 _ rfl;have a2 := D2.cell 2 _ rfl;have nD := D2.lt;go_wp2
 go_ret
 exact ⟨by rw [R.out]; rfl, HB.out⟩
set_option maxHeartbeats 4000000 in
theorem mcheck_b (n o u : List UInt8) (hx : u.length ≤ 1000) (w : World) (hT : Tab w) (ho : o = [33, 61]) :
  Calls Tryz.prog 26 #[itmV (n, o, u)] w fun e w' => e = .returned (.int .i64 (chk1 (n, o, u))) ∧ Below w.heap.size w w' := by
 have D := At.nw w [.string ⟨n.toArray⟩, .string ⟨o.toArray⟩, .string ⟨u.toArray⟩] 49;have B := below_cells (w := w) (.cells #[.string ⟨n.toArray⟩, .string ⟨o.toArray⟩, .string ⟨u.toArray⟩] 49);have HN := Lib.hid (fun W => name_any n W);have HV := Lib.hid (fun W => value_any u W);have e0 : (o == [61, 126]) = false := by rw [ho]; decide
 have e1 : (o == [33, 126]) = false := by rw [ho]; decide
 have e2 : (o == [61]) = false := by rw [ho]; decide
 have e3 : (o == [33, 61]) = true := by rw [ho]; decide
 have hp : isPat o = false := by unfold isPat; rw [e0, e1]; rfl
 have hq : isOpB o = true := by unfold isOpB; rw [e2, e3, hp]; rfl
 have a0 := D.cell 0 _ rfl;have a1 := D.cell 1 _ rfl;have a2 := D.cell 2 _ rfl;have nD := D.lt;have eo : (⟨o.toArray⟩ : ByteArray).toList = o := by rw [ByteArray.toList_eq]
 have eu : (⟨u.toArray⟩ : ByteArray).toList = u := by rw [ByteArray.toList_eq]
 have HB := Lib.hid B;have HP := Lib.hid hp;have HQ := Lib.hid hq;clear B hT hx ho hp hq;unfold itmV;dsimp only;cases hn : nameR n
 ·
  have R : Hid (chk1 (n, o, u) = 5) := by unfold Hid chk1; rw [if_pos hn]
  have HN := Lib.hid (show ∀ W, _ from fun W => by have h := HN.out W; rw [hn] at h; exact h);clear hn;go_enter Tryz.func26, Tryz.ntmps26
  go_wp2_with fail
  refine (HN.out _).mono ?_;rintro e w1 ⟨rfl, hb⟩;have D1 := D.below hb;have HB := Lib.hid (HB.out.trans (hb.mono HB.out.size));clear hb a0 a1 a2 nD;have a0 := D1.cell 0 _ rfl;have a1 := D1.cell 1 _ rfl;have a2 := D1.cell 2 _ rfl;have nD := D1.lt;go_wp2
  go_ret
  exact ⟨by rw [R.out]; rfl, HB.out⟩
 have HN := Lib.hid (show ∀ W, _ from fun W => by have h := HN.out W; rw [hn] at h; exact h);by_cases hu : u = []
 ·
  have q0 : (u == []) = true := by rw [beq_iff_eq]; exact hu
  have q1 : u.isEmpty = true := by rw [hu]; rfl
  have R : Hid (chk1 (n, o, u) = 0) := by unfold Hid chk1; rw [if_neg (by rw [hn]; simp), if_neg (by rw [HQ.out]; simp), if_neg (by rw [hu]; simp), if_neg (by rw [HP.out]; simp)]
  clear hn hu;go_enter Tryz.func26, Tryz.ntmps26
  go_wp2_with fail
  refine (HN.out _).mono ?_;rintro e w1 ⟨rfl, hb⟩;have D1 := D.below hb;have HB := Lib.hid (HB.out.trans (hb.mono HB.out.size));clear hb a0 a1 a2 nD;have a0 := D1.cell 0 _ rfl;have a1 := D1.cell 1 _ rfl;have a2 := D1.cell 2 _ rfl;have nD := D1.lt;go_wp2
  go_ret
  exact ⟨by rw [R.out]; rfl, HB.out⟩
 have q0 : (u == []) = false := by rw [beq_eq_false_iff_ne]; exact hu
 have q1 : u.isEmpty = false := by cases u with | nil => exact absurd rfl hu | cons a t => rfl
 cases hv : valueR u
 ·
  have HV := Lib.hid (show ∀ W, _ from fun W => by have h := HV.out W; rw [hv] at h; exact h);have R : Hid (chk1 (n, o, u) = 1) := by unfold Hid chk1; rw [if_neg (by rw [hn]; simp), if_neg (by rw [HQ.out]; simp), if_pos (by rw [hv]; simp; exact fun h => hu (by simpa using h))]
  clear hn hv hu;go_enter Tryz.func26, Tryz.ntmps26
  go_wp2_with fail
  refine (HN.out _).mono ?_;rintro e w1 ⟨rfl, hb⟩;have D1 := D.below hb;have HB := Lib.hid (HB.out.trans (hb.mono HB.out.size));clear hb a0 a1 a2 nD;have a0 := D1.cell 0 _ rfl;have a1 := D1.cell 1 _ rfl;have a2 := D1.cell 2 _ rfl;have nD := D1.lt;go_wp2_with fail
  refine (HV.out _).mono ?_;rintro e w2 ⟨rfl, hb⟩;have D2 := D1.below hb;have HB := Lib.hid (HB.out.trans (hb.mono HB.out.size));clear hb a0 a1 a2 nD;have a0 := D2.cell 0 _ rfl;have a1 := D2.cell 1 _ rfl;have a2 := D2.cell 2 _ rfl;have nD := D2.lt;go_wp2
  go_ret
  exact ⟨by rw [R.out]; rfl, HB.out⟩
 have HV := Lib.hid (show ∀ W, _ from fun W => by have h := HV.out W; rw [hv] at h; exact h);have R : Hid (chk1 (n, o, u) = 0) := by unfold Hid chk1; rw [if_neg (by rw [hn]; simp), if_neg (by rw [HQ.out]; simp), if_neg (by rw [hv]; simp), if_neg (by rw [HP.out]; simp)]
 clear hn hu hv;go_enter Tryz.func26, Tryz.ntmps26
 go_wp2_with fail
 refine (HN.out _).mono ?_;rintro e w1 ⟨rfl, hb⟩;have D1 := D.below hb;have HB := Lib.hid (HB.out.trans (hb.mono HB.out.size));clear hb a0 a1 a2 nD;have a0 := D1.cell 0 _ rfl;have a1 := D1.cell 1 _ rfl;have a2 := D1.cell 2 _ rfl;have nD := D1.lt;go_wp2_with fail
 refine (HV.out _).mono ?_;rintro e w2 ⟨rfl, hb⟩;have D2 := D1.below hb;have HB := Lib.hid (HB.out.trans (hb.mono HB.out.size));clear hb a0 a1 a2 nD;have a0 := D2.cell 0 _ rfl;have a1 := D2.cell 1 _ rfl;have a2 := D2.cell 2 _ rfl;have nD := D2.lt;go_wp2
 go_ret
 exact ⟨by rw [R.out]; rfl, HB.out⟩
set_option maxHeartbeats 4000000 in
theorem mcheck_c (n o u : List UInt8) (hx : u.length ≤ 1000) (w : World) (hT : Tab w) (ho : o = [61, 126]) :
  Calls Tryz.prog 26 #[itmV (n, o, u)] w fun e w' => e = .returned (.int .i64 (chk1 (n, o, u))) ∧ Below w.heap.size w w' := by
 have D := At.nw w [.string ⟨n.toArray⟩, .string ⟨o.toArray⟩, .string ⟨u.toArray⟩] 49;have B := below_cells (w := w) (.cells #[.string ⟨n.toArray⟩, .string ⟨o.toArray⟩, .string ⟨u.toArray⟩] 49);have HN := Lib.hid (fun W => name_any n W);have HV := Lib.hid (fun W => value_any u W);have HC := Lib.hid (fun W (hW : Below w.heap.size w W) => compile_any ⟨u.toArray⟩ u rfl hx W (hT.below hW));have e0 : (o == [61, 126]) = true := by rw [ho]; decide
 have e1 : (o == [33, 126]) = false := by rw [ho]; decide
 have e2 : (o == [61]) = false := by rw [ho]; decide
 have e3 : (o == [33, 61]) = false := by rw [ho]; decide
 have hp : isPat o = true := by unfold isPat; rw [e0, e1]; rfl
 have hq : isOpB o = true := by unfold isOpB; rw [e2, e3, hp]; rfl
 have a0 := D.cell 0 _ rfl;have a1 := D.cell 1 _ rfl;have a2 := D.cell 2 _ rfl;have nD := D.lt;have eo : (⟨o.toArray⟩ : ByteArray).toList = o := by rw [ByteArray.toList_eq]
 have eu : (⟨u.toArray⟩ : ByteArray).toList = u := by rw [ByteArray.toList_eq]
 have HB := Lib.hid B;have HP := Lib.hid hp;have HQ := Lib.hid hq;clear B hT hx ho hp hq;unfold itmV;dsimp only;cases hn : nameR n
 ·
  have R : Hid (chk1 (n, o, u) = 5) := by unfold Hid chk1; rw [if_pos hn]
  have HN := Lib.hid (show ∀ W, _ from fun W => by have h := HN.out W; rw [hn] at h; exact h);clear hn;go_enter Tryz.func26, Tryz.ntmps26
  go_wp2_with fail
  refine (HN.out _).mono ?_;rintro e w1 ⟨rfl, hb⟩;have D1 := D.below hb;have HB := Lib.hid (HB.out.trans (hb.mono HB.out.size));clear hb a0 a1 a2 nD;have a0 := D1.cell 0 _ rfl;have a1 := D1.cell 1 _ rfl;have a2 := D1.cell 2 _ rfl;have nD := D1.lt;go_wp2
  go_ret
  exact ⟨by rw [R.out]; rfl, HB.out⟩
 have HN := Lib.hid (show ∀ W, _ from fun W => by have h := HN.out W; rw [hn] at h; exact h);by_cases hu : u = []
 ·
  have q0 : (u == []) = true := by rw [beq_iff_eq]; exact hu
  have q1 : u.isEmpty = true := by rw [hu]; rfl
  have R : Hid (chk1 (n, o, u) = compE u) := by unfold Hid chk1; rw [if_neg (by rw [hn]; simp), if_neg (by rw [HQ.out]; simp), if_neg (by rw [hu]; simp), if_pos HP.out]
  clear hn hu;go_enter Tryz.func26, Tryz.ntmps26
  go_wp2_with fail
  refine (HN.out _).mono ?_;rintro e w1 ⟨rfl, hb⟩;have D1 := D.below hb;have HB := Lib.hid (HB.out.trans (hb.mono HB.out.size));clear hb a0 a1 a2 nD;have a0 := D1.cell 0 _ rfl;have a1 := D1.cell 1 _ rfl;have a2 := D1.cell 2 _ rfl;have nD := D1.lt;have h := HC.out _ HB.out;unfold compE at R;cases hc : Rx.compileF u with
  | bad er j =>
   rw [hc] at h R;have H := Lib.hid h;clear h hc;go_wp2_with fail
   refine (H.out).mono ?_;rintro e w2 ⟨hb, rfl⟩;have D2 := D1.below hb;have HB := Lib.hid (HB.out.trans (hb.mono HB.out.size));clear hb a0 a1 a2 nD;have a0 := D2.cell 0 _ rfl;have a1 := D2.cell 1 _ rfl;have a2 := D2.cell 2 _ rfl;have nD := D2.lt;go_wp2
   go_ret
   exact ⟨by rw [R.out]; rfl, HB.out⟩
  | ok q i =>
   rw [hc] at h R;have H := Lib.hid h;clear h hc;go_wp2_with fail
   refine (H.out).mono ?_;rintro e w2 ⟨hb, rb, rfl, hge, hX⟩;clear hge hX;have D2 := D1.below hb;have HB := Lib.hid (HB.out.trans (hb.mono HB.out.size));clear hb a0 a1 a2 nD;have a0 := D2.cell 0 _ rfl;have a1 := D2.cell 1 _ rfl;have a2 := D2.cell 2 _ rfl;have nD := D2.lt;go_wp2
   go_ret
   exact ⟨by rw [R.out]; rfl, HB.out⟩
 have q0 : (u == []) = false := by rw [beq_eq_false_iff_ne]; exact hu
 have q1 : u.isEmpty = false := by cases u with | nil => exact absurd rfl hu | cons a t => rfl
 cases hv : valueR u
 ·
  have HV := Lib.hid (show ∀ W, _ from fun W => by have h := HV.out W; rw [hv] at h; exact h);have R : Hid (chk1 (n, o, u) = 1) := by unfold Hid chk1; rw [if_neg (by rw [hn]; simp), if_neg (by rw [HQ.out]; simp), if_pos (by rw [hv]; simp; exact fun h => hu (by simpa using h))]
  clear hn hv hu;go_enter Tryz.func26, Tryz.ntmps26
  go_wp2_with fail
  refine (HN.out _).mono ?_;rintro e w1 ⟨rfl, hb⟩;have D1 := D.below hb;have HB := Lib.hid (HB.out.trans (hb.mono HB.out.size));clear hb a0 a1 a2 nD;have a0 := D1.cell 0 _ rfl;have a1 := D1.cell 1 _ rfl;have a2 := D1.cell 2 _ rfl;have nD := D1.lt;go_wp2_with fail
  refine (HV.out _).mono ?_;rintro e w2 ⟨rfl, hb⟩;have D2 := D1.below hb;have HB := Lib.hid (HB.out.trans (hb.mono HB.out.size));clear hb a0 a1 a2 nD;have a0 := D2.cell 0 _ rfl;have a1 := D2.cell 1 _ rfl;have a2 := D2.cell 2 _ rfl;have nD := D2.lt;go_wp2
  go_ret
  exact ⟨by rw [R.out]; rfl, HB.out⟩
 have HV := Lib.hid (show ∀ W, _ from fun W => by have h := HV.out W; rw [hv] at h; exact h);have R : Hid (chk1 (n, o, u) = compE u) := by unfold Hid chk1; rw [if_neg (by rw [hn]; simp), if_neg (by rw [HQ.out]; simp), if_neg (by rw [hv]; simp), if_pos HP.out]
 clear hn hu hv;go_enter Tryz.func26, Tryz.ntmps26
 go_wp2_with fail
 refine (HN.out _).mono ?_;rintro e w1 ⟨rfl, hb⟩;have D1 := D.below hb;have HB := Lib.hid (HB.out.trans (hb.mono HB.out.size));clear hb a0 a1 a2 nD;have a0 := D1.cell 0 _ rfl;have a1 := D1.cell 1 _ rfl;have a2 := D1.cell 2 _ rfl;have nD := D1.lt;go_wp2_with fail
 refine (HV.out _).mono ?_;rintro e w2 ⟨rfl, hb⟩;have D2 := D1.below hb;have HB := Lib.hid (HB.out.trans (hb.mono HB.out.size));clear hb a0 a1 a2 nD;have a0 := D2.cell 0 _ rfl;have a1 := D2.cell 1 _ rfl;have a2 := D2.cell 2 _ rfl;have nD := D2.lt;have h := HC.out _ HB.out;unfold compE at R;cases hc : Rx.compileF u with
 | bad er j =>
  rw [hc] at h R;have H := Lib.hid h;clear h hc;go_wp2_with fail
  refine (H.out).mono ?_;rintro e w3 ⟨hb, rfl⟩;have D3 := D2.below hb;have HB := Lib.hid (HB.out.trans (hb.mono HB.out.size));clear hb a0 a1 a2 nD;have a0 := D3.cell 0 _ rfl;have a1 := D3.cell 1 _ rfl;have a2 := D3.cell 2 _ rfl;have nD := D3.lt;go_wp2
  go_ret
  exact ⟨by rw [R.out]; rfl, HB.out⟩
 | ok q i =>
  rw [hc] at h R;have H := Lib.hid h;clear h hc;go_wp2_with fail
  refine (H.out).mono ?_;rintro e w3 ⟨hb, rb, rfl, hge, hX⟩;clear hge hX;have D3 := D2.below hb;have HB := Lib.hid (HB.out.trans (hb.mono HB.out.size));clear hb a0 a1 a2 nD;have a0 := D3.cell 0 _ rfl;have a1 := D3.cell 1 _ rfl;have a2 := D3.cell 2 _ rfl;have nD := D3.lt;go_wp2
  go_ret
  exact ⟨by rw [R.out]; rfl, HB.out⟩
set_option maxHeartbeats 4000000 in
theorem mcheck_d (n o u : List UInt8) (hx : u.length ≤ 1000) (w : World) (hT : Tab w) (ho : o = [33, 126]) :
  Calls Tryz.prog 26 #[itmV (n, o, u)] w fun e w' => e = .returned (.int .i64 (chk1 (n, o, u))) ∧ Below w.heap.size w w' := by
 have D := At.nw w [.string ⟨n.toArray⟩, .string ⟨o.toArray⟩, .string ⟨u.toArray⟩] 49;have B := below_cells (w := w) (.cells #[.string ⟨n.toArray⟩, .string ⟨o.toArray⟩, .string ⟨u.toArray⟩] 49);have HN := Lib.hid (fun W => name_any n W);have HV := Lib.hid (fun W => value_any u W);have HC := Lib.hid (fun W (hW : Below w.heap.size w W) => compile_any ⟨u.toArray⟩ u rfl hx W (hT.below hW));have e0 : (o == [61, 126]) = false := by rw [ho]; decide
 have e1 : (o == [33, 126]) = true := by rw [ho]; decide
 have e2 : (o == [61]) = false := by rw [ho]; decide
 have e3 : (o == [33, 61]) = false := by rw [ho]; decide
 have hp : isPat o = true := by unfold isPat; rw [e0, e1]; rfl
 have hq : isOpB o = true := by unfold isOpB; rw [e2, e3, hp]; rfl
 have a0 := D.cell 0 _ rfl;have a1 := D.cell 1 _ rfl;have a2 := D.cell 2 _ rfl;have nD := D.lt;have eo : (⟨o.toArray⟩ : ByteArray).toList = o := by rw [ByteArray.toList_eq]
 have eu : (⟨u.toArray⟩ : ByteArray).toList = u := by rw [ByteArray.toList_eq]
 have HB := Lib.hid B;have HP := Lib.hid hp;have HQ := Lib.hid hq;clear B hT hx ho hp hq;unfold itmV;dsimp only;cases hn : nameR n
 ·
  have R : Hid (chk1 (n, o, u) = 5) := by unfold Hid chk1; rw [if_pos hn]
  have HN := Lib.hid (show ∀ W, _ from fun W => by have h := HN.out W; rw [hn] at h; exact h);clear hn;go_enter Tryz.func26, Tryz.ntmps26
  go_wp2_with fail
  refine (HN.out _).mono ?_;rintro e w1 ⟨rfl, hb⟩;have D1 := D.below hb;have HB := Lib.hid (HB.out.trans (hb.mono HB.out.size));clear hb a0 a1 a2 nD;have a0 := D1.cell 0 _ rfl;have a1 := D1.cell 1 _ rfl;have a2 := D1.cell 2 _ rfl;have nD := D1.lt;go_wp2
  go_ret
  exact ⟨by rw [R.out]; rfl, HB.out⟩
 have HN := Lib.hid (show ∀ W, _ from fun W => by have h := HN.out W; rw [hn] at h; exact h);by_cases hu : u = []
 ·
  have q0 : (u == []) = true := by rw [beq_iff_eq]; exact hu
  have q1 : u.isEmpty = true := by rw [hu]; rfl
  have R : Hid (chk1 (n, o, u) = compE u) := by unfold Hid chk1; rw [if_neg (by rw [hn]; simp), if_neg (by rw [HQ.out]; simp), if_neg (by rw [hu]; simp), if_pos HP.out]
  clear hn hu;go_enter Tryz.func26, Tryz.ntmps26
  go_wp2_with fail
  refine (HN.out _).mono ?_;rintro e w1 ⟨rfl, hb⟩;have D1 := D.below hb;have HB := Lib.hid (HB.out.trans (hb.mono HB.out.size));clear hb a0 a1 a2 nD;have a0 := D1.cell 0 _ rfl;have a1 := D1.cell 1 _ rfl;have a2 := D1.cell 2 _ rfl;have nD := D1.lt;have h := HC.out _ HB.out;unfold compE at R;cases hc : Rx.compileF u with
  | bad er j =>
   rw [hc] at h R;have H := Lib.hid h;clear h hc;go_wp2_with fail
   refine (H.out).mono ?_;rintro e w2 ⟨hb, rfl⟩;have D2 := D1.below hb;have HB := Lib.hid (HB.out.trans (hb.mono HB.out.size));clear hb a0 a1 a2 nD;have a0 := D2.cell 0 _ rfl;have a1 := D2.cell 1 _ rfl;have a2 := D2.cell 2 _ rfl;have nD := D2.lt;go_wp2
   go_ret
   exact ⟨by rw [R.out]; rfl, HB.out⟩
  | ok q i =>
   rw [hc] at h R;have H := Lib.hid h;clear h hc;go_wp2_with fail
   refine (H.out).mono ?_;rintro e w2 ⟨hb, rb, rfl, hge, hX⟩;clear hge hX;have D2 := D1.below hb;have HB := Lib.hid (HB.out.trans (hb.mono HB.out.size));clear hb a0 a1 a2 nD;have a0 := D2.cell 0 _ rfl;have a1 := D2.cell 1 _ rfl;have a2 := D2.cell 2 _ rfl;have nD := D2.lt;go_wp2
   go_ret
   exact ⟨by rw [R.out]; rfl, HB.out⟩
 have q0 : (u == []) = false := by rw [beq_eq_false_iff_ne]; exact hu
 have q1 : u.isEmpty = false := by cases u with | nil => exact absurd rfl hu | cons a t => rfl
 cases hv : valueR u
 ·
  have HV := Lib.hid (show ∀ W, _ from fun W => by have h := HV.out W; rw [hv] at h; exact h);have R : Hid (chk1 (n, o, u) = 1) := by unfold Hid chk1; rw [if_neg (by rw [hn]; simp), if_neg (by rw [HQ.out]; simp), if_pos (by rw [hv]; simp; exact fun h => hu (by simpa using h))]
  clear hn hv hu;go_enter Tryz.func26, Tryz.ntmps26
  go_wp2_with fail
  refine (HN.out _).mono ?_;rintro e w1 ⟨rfl, hb⟩;have D1 := D.below hb;have HB := Lib.hid (HB.out.trans (hb.mono HB.out.size));clear hb a0 a1 a2 nD;have a0 := D1.cell 0 _ rfl;have a1 := D1.cell 1 _ rfl;have a2 := D1.cell 2 _ rfl;have nD := D1.lt;go_wp2_with fail
  refine (HV.out _).mono ?_;rintro e w2 ⟨rfl, hb⟩;have D2 := D1.below hb;have HB := Lib.hid (HB.out.trans (hb.mono HB.out.size));clear hb a0 a1 a2 nD;have a0 := D2.cell 0 _ rfl;have a1 := D2.cell 1 _ rfl;have a2 := D2.cell 2 _ rfl;have nD := D2.lt;go_wp2
  go_ret
  exact ⟨by rw [R.out]; rfl, HB.out⟩
 have HV := Lib.hid (show ∀ W, _ from fun W => by have h := HV.out W; rw [hv] at h; exact h);have R : Hid (chk1 (n, o, u) = compE u) := by unfold Hid chk1; rw [if_neg (by rw [hn]; simp), if_neg (by rw [HQ.out]; simp), if_neg (by rw [hv]; simp), if_pos HP.out]
 clear hn hu hv;go_enter Tryz.func26, Tryz.ntmps26
 go_wp2_with fail
 refine (HN.out _).mono ?_;rintro e w1 ⟨rfl, hb⟩;have D1 := D.below hb;have HB := Lib.hid (HB.out.trans (hb.mono HB.out.size));clear hb a0 a1 a2 nD;have a0 := D1.cell 0 _ rfl;have a1 := D1.cell 1 _ rfl;have a2 := D1.cell 2 _ rfl;have nD := D1.lt;go_wp2_with fail
 refine (HV.out _).mono ?_;rintro e w2 ⟨rfl, hb⟩;have D2 := D1.below hb;have HB := Lib.hid (HB.out.trans (hb.mono HB.out.size));clear hb a0 a1 a2 nD;have a0 := D2.cell 0 _ rfl;have a1 := D2.cell 1 _ rfl;have a2 := D2.cell 2 _ rfl;have nD := D2.lt;have h := HC.out _ HB.out;unfold compE at R;cases hc : Rx.compileF u with
 | bad er j =>
  rw [hc] at h R;have H := Lib.hid h;clear h hc;go_wp2_with fail
  refine (H.out).mono ?_;rintro e w3 ⟨hb, rfl⟩;have D3 := D2.below hb;have HB := Lib.hid (HB.out.trans (hb.mono HB.out.size));clear hb a0 a1 a2 nD;have a0 := D3.cell 0 _ rfl;have a1 := D3.cell 1 _ rfl;have a2 := D3.cell 2 _ rfl;have nD := D3.lt;go_wp2
  go_ret
  exact ⟨by rw [R.out]; rfl, HB.out⟩
 | ok q i =>
  rw [hc] at h R;have H := Lib.hid h;clear h hc;go_wp2_with fail
  refine (H.out).mono ?_;rintro e w3 ⟨hb, rb, rfl, hge, hX⟩;clear hge hX;have D3 := D2.below hb;have HB := Lib.hid (HB.out.trans (hb.mono HB.out.size));clear hb a0 a1 a2 nD;have a0 := D3.cell 0 _ rfl;have a1 := D3.cell 1 _ rfl;have a2 := D3.cell 2 _ rfl;have nD := D3.lt;go_wp2
  go_ret
  exact ⟨by rw [R.out]; rfl, HB.out⟩
set_option maxHeartbeats 4000000 in
theorem mcheck_e (n o u : List UInt8) (hx : u.length ≤ 1000) (w : World) (hT : Tab w) (ho : o ≠ [61] ∧ o ≠ [33, 61] ∧ o ≠ [61, 126] ∧ o ≠ [33, 126]) :
  Calls Tryz.prog 26 #[itmV (n, o, u)] w fun e w' => e = .returned (.int .i64 (chk1 (n, o, u))) ∧ Below w.heap.size w w' := by
 have D := At.nw w [.string ⟨n.toArray⟩, .string ⟨o.toArray⟩, .string ⟨u.toArray⟩] 49;have B := below_cells (w := w) (.cells #[.string ⟨n.toArray⟩, .string ⟨o.toArray⟩, .string ⟨u.toArray⟩] 49);have HN := Lib.hid (fun W => name_any n W);have HV := Lib.hid (fun W => value_any u W);have e0 : (o == [61, 126]) = false := by rw [beq_eq_false_iff_ne]; exact ho.2.2.1
 have e1 : (o == [33, 126]) = false := by rw [beq_eq_false_iff_ne]; exact ho.2.2.2
 have e2 : (o == [61]) = false := by rw [beq_eq_false_iff_ne]; exact ho.1
 have e3 : (o == [33, 61]) = false := by rw [beq_eq_false_iff_ne]; exact ho.2.1
 have hp : isPat o = false := by unfold isPat; rw [e0, e1]; rfl
 have hq : isOpB o = false := by unfold isOpB; rw [e2, e3, hp]; rfl
 have a0 := D.cell 0 _ rfl;have a1 := D.cell 1 _ rfl;have a2 := D.cell 2 _ rfl;have nD := D.lt;have eo : (⟨o.toArray⟩ : ByteArray).toList = o := by rw [ByteArray.toList_eq]
 have eu : (⟨u.toArray⟩ : ByteArray).toList = u := by rw [ByteArray.toList_eq]
 have HB := Lib.hid B;have HP := Lib.hid hp;have HQ := Lib.hid hq;clear B hT hx ho hp hq;unfold itmV;dsimp only;cases hn : nameR n
 ·
  have R : Hid (chk1 (n, o, u) = 5) := by unfold Hid chk1; rw [if_pos hn]
  have HN := Lib.hid (show ∀ W, _ from fun W => by have h := HN.out W; rw [hn] at h; exact h);clear hn;go_enter Tryz.func26, Tryz.ntmps26
  go_wp2_with fail
  refine (HN.out _).mono ?_;rintro e w1 ⟨rfl, hb⟩;have D1 := D.below hb;have HB := Lib.hid (HB.out.trans (hb.mono HB.out.size));clear hb a0 a1 a2 nD;have a0 := D1.cell 0 _ rfl;have a1 := D1.cell 1 _ rfl;have a2 := D1.cell 2 _ rfl;have nD := D1.lt;go_wp2
  go_ret
  exact ⟨by rw [R.out]; rfl, HB.out⟩
 have HN := Lib.hid (show ∀ W, _ from fun W => by have h := HN.out W; rw [hn] at h; exact h);have R : Hid (chk1 (n, o, u) = 2) := by unfold Hid chk1; rw [if_neg (by rw [hn]; simp), if_pos HQ.out]
 clear hn;go_enter Tryz.func26, Tryz.ntmps26
 go_wp2_with fail
 refine (HN.out _).mono ?_;rintro e w1 ⟨rfl, hb⟩;have D1 := D.below hb;have HB := Lib.hid (HB.out.trans (hb.mono HB.out.size));clear hb a0 a1 a2 nD;have a0 := D1.cell 0 _ rfl;have a1 := D1.cell 1 _ rfl;have a2 := D1.cell 2 _ rfl;have nD := D1.lt;go_wp2
 go_ret
 exact ⟨by rw [R.out]; rfl, HB.out⟩
theorem mcheck_any (x : Itm) (hx : x.2.2.length ≤ 1000) (w : World) (hT : Tab w) :
  Calls Tryz.prog 26 #[itmV x] w fun e w' => e = .returned (.int .i64 (chk1 x)) ∧ Below w.heap.size w w' := by
 obtain ⟨n, o, u⟩ := x;rcases op_cases o with h | h | h | h | h
 ·
  exact mcheck_a n o u hx w hT h
 ·
  exact mcheck_b n o u hx w hT h
 ·
  exact mcheck_c n o u hx w hT h
 ·
  exact mcheck_d n o u hx w hT h
 ·
  exact mcheck_e n o u hx w hT h
end Go.Proofs.YthdoniefjmphaaaGreatDoor
/- match.Check. -/
namespace Go.Proofs.YthdoniefjmphaaaGreatDoor
open Go Go.Proofs Go.RowKit Go.Shelf
set_option maxRecDepth 100000
attribute [local go_sem] Oper.semAt_some
set_option maxHeartbeats 4000000 in
theorem mcheckL_any (sv : Value) (zs : List SItm) (hreach : zs.length ≤ 1000) (w : World) (hT : Tab w) (hI : MtL w.heap.size w sv zs) :
  Calls Tryz.prog 11 #[sv] w fun e w' => e = .returned (.int .i64 (checkMR zs)) ∧ Below w.heap.size w w' := by
 obtain ⟨a, cap, rfl⟩ := hI.slice;by_cases h8 : 8 < zs.length
 ·
  have hR : Hid (checkMR zs = 4) := by unfold Hid checkMR; rw [if_pos h8]
  have hz : (8 : Int) < (zs.length : Int) := by omega
  go_enter Tryz.func11, Tryz.ntmps11
  go_wp2
  refine bodyPost_ret (v := .int .i64 4) (by simp [results, Tryz.results11, go_sem]) rfl ⟨by rw [hR.out], by go_grown⟩
 have hR : Hid (checkMR zs = chkM zs) := by unfold Hid checkMR; rw [if_neg h8]
 have hz : ¬ (8 : Int) < (zs.length : Int) := by omega
 refine (callsIn_wide (n := 9)).1 ?_;refine callsIn_of_wp_marks Tryz.func11 rfl trivial ?_ rfl;simp only [Tryz.ntmps11, List.size_toArray, List.length_cons, List.length_nil, Nat.reduceAdd, Nat.reduceSub, Array.replicate_succ, Array.replicate_zero, List.push_toArray, List.append_toArray, List.nil_append, List.cons_append]
 gi_wp2
 refine ⟨trivial, (mvalues_in Fence.wide 8 trivial rfl _ _ _ _).mono ?_⟩;rintro e w1 ⟨rfl, rfl⟩
 gi_wp2
 obtain ⟨W0, hW0⟩ : ∃ W0, ((w.alloc (.cells #[.int .i64 0] 31)).alloc (.cells #[.slice a zs.length cap] 22)) = W0 := ⟨_, rfl⟩;have hlp : Below w.heap.size w W0 := by rw [← hW0]; go_grown
 have hsz : W0.heap.size = w.heap.size + 2 := by rw [← hW0]; simp
 have br0 : Boxed W0 w.heap.size 31 (.int .i64 0) := by
  rw [← hW0];exact (Boxed.new w 31 (.int .i64 0)).alloc _
 have bs0 : W0.cell? ⟨w.heap.size + 1, 0, none⟩ = some (.slice a zs.length cap) := by
  rw [← hW0];have h : Boxed ((w.alloc (.cells #[.int .i64 0] 31)).alloc (.cells #[.slice a zs.length cap] 22)) _ 22 _ := Boxed.new (w.alloc (.cells #[.int .i64 0] 31)) 22 (.slice a zs.length cap);rw [World.size_alloc] at h;exact h.cell
 have hI0 := hI.below hlp;have HT := Lib.hid (fun W (hW : Below w.heap.size w W) => hT.below hW);rw [hW0];clear hW0 hI hT;refine wpIn_rangeFunc_ownH (F := Fence.wide) (n := 9) rfl (by omega) (gf := 39) (lb := #[.pointer (some ⟨w.heap.size + 1, 0, none⟩)]) rfl trivial (enters_of Tryz.func39 (by kernel_rfl) rfl)
  (encs := fun x => #[itmV x.1]) (Kp := Below w.heap.size) (mvalues_stops Fence.wide (9 - 1) trivial rfl (by omega) (w.heap.size + 1) w.heap.size (.slice a zs.length cap) zs (by omega) W0 (by omega) (by omega) bs0 hI0) belowK_t (belowK_b (by omega)) (Below.refl _ _) (fun _ => rfl)
  (fun pre W => chkM pre = 0 ∧ Boxed W w.heap.size 31 (.int .i64 0) ∧ Below w.heap.size w W)
  (fun c pre W => (c = .ret ∧ chkM pre ≠ 0) ∧ Boxed W w.heap.size 31 (.int .i64 (chkM pre)) ∧ Below w.heap.size w W)
  (OwnFrom.and (ownFrom_pure _ _) (OwnFrom.and (Own.from (boxed_own w.heap.size 31 (fun _ => .int .i64 0)) _) (ownFrom_below (Nat.le_refl _) (by rw [hsz]; omega))))
  (fun c => OwnFrom.and (ownFrom_pure _ _) (OwnFrom.and (Own.from (boxed_own w.heap.size 31 (fun pre => .int .i64 (chkM pre))) _) (ownFrom_below (Nat.le_refl _) (by rw [hsz]; omega))))
  ⟨rfl, br0, hlp⟩
  (fun x a' W => ∃ Bx, w.heap.size < Bx ∧ Blk W Bx #[.string ⟨x.1.1.toArray⟩, .string ⟨x.1.2.1.toArray⟩, .string ⟨x.1.2.2.toArray⟩] 49 ∧ a' = { tmps := #[.slice a zs.length cap, undef, .pointer (some ⟨w.heap.size, 0, none⟩), .pointer (some ⟨Bx, 0, none⟩), undef, .slice a zs.length cap, .int .i64 (zs.length : Int), .bool false, .slice a zs.length cap, .func (.func 39) #[] #[.pointer (some ⟨w.heap.size + 1, 0, none⟩)], .agg #[.string ⟨x.1.1.toArray⟩, .string ⟨x.1.2.1.toArray⟩, .string ⟨x.1.2.2.toArray⟩], undef, undef, undef, undef, undef], defers := [] })
  (fun x a' => ?ax) ?assign ?body ?done ?stop
 case ax => exact fun s X Y row ⟨Bx, q1, q2, q3⟩ hg hr => ⟨Bx, q1, (blk_own (β := Unit) Bx _ _).from _ () X Y row q2 hg hr, q3⟩
 case assign =>
  rintro l pre x W K ⟨hp, hr0, hB⟩ hK;simp only [itmV];have hWs : w.heap.size < W.heap.size := hr0.lt
  gi_wp2
  exact hK _ _ ((KeepsOthers.alloc _ _).from _) ((Below.refl _ W).alloc (by omega) _) ⟨hp, hr0.alloc _, below_new hB _⟩ ⟨W.heap.size, hWs, heap_alloc_new W _, rfl⟩
 case body =>
  rintro l pre x a' W hl ⟨r, hr⟩ ⟨hp, hr0, hB⟩ ⟨Bx, hBx, bX, rfl⟩ hlen;have hpx := chkM_snoc pre x hp;obtain ⟨⟨xn, xo, xv⟩, hx⟩ := x;have hxv : xv.length ≤ 1000 := hx.2.2;dsimp only at bX hpx;have HPX := Lib.hid hpx;have HN := Lib.hid (mcheck_any (xn, xo, xv) hxv W (HT.out W hB));have cx0 := blk_cell (j := 0) bX rfl;have cx1 := blk_cell (j := 1) bX rfl;have cx2 := blk_cell (j := 2) bX rfl;have c3 := hr0.cell;have f3 := hr0.frozen;unfold itmV at HN;dsimp only at HN;clear hpx hp
  gi_wp2
  refine ⟨trivial, (CallsIn.inRound l (callsIn_wide.2 HN.out)).mono ?_⟩;rintro e w2 ⟨rfl, hb2⟩;have n2 := boxed_below hr0 hb2;have hB2 := hB.trans (hb2.mono hB.size);have K2 := ko_below hb2;have L2 : Below w.heap.size W w2 := hb2.mono hB.size;clear hb2 HN c3 f3 cx0 cx1 cx2;have c3 := n2.cell;have f3 := n2.frozen;generalize hC : chk1 (xn, xo, xv) = C at *;by_cases h0 : C = 0
  ·
   subst h0;clear hC
   gi_wp2
   exact ⟨K2.from _, L2, HPX.out, n2, hB2⟩
  ·
   have q0 : (C == 0) = false := by rw [beq_eq_false_iff_ne]; exact h0
   have HC := Lib.hid h0;have K3 := K2.trans (KeepsOthers.setCell w2 ⟨w.heap.size, 0, none⟩ (.int .i64 C));have B3 := hB2.setCell (p := ⟨w.heap.size, 0, none⟩) (Nat.le_refl _) (.int .i64 C);clear h0 hC
   gi_wp2
   exact ⟨K3.from _, ⟨rfl, by rw [HPX.out]; exact HC.out⟩, by rw [HPX.out]; exact n2.set _, B3⟩
 case done =>
  rintro D ys W hD rfl ⟨hp, hr0, hB⟩ hK;have c4 := hr0.cell;have f4 := hr0.frozen;have HP := Lib.hid hp;clear hp
  gi_wp2
  have hn1 := hr0.set (.int .i64 0);have hK' := (KeepsOthers.setCell W ⟨w.heap.size, 0, none⟩ (.int .i64 0)).same D _ hK rfl;refine ⟨by simp, .inl ⟨_, _, rfl, run_takeDeferred hK', ?_⟩⟩;have hc5 := cell_kept hn1.cell (grownBy_putObj' _ D (.deferred none)) (fun r e => by cases e; exact ⟨_, hK', rfl⟩);exact ⟨.int .i64 0, by simp [results, Tryz.f11, go_sem, hc5], by rw [hR.out, HP.out], (hB.setCell (p := ⟨w.heap.size, 0, none⟩) (by simp) _).trans (belowK_b (w := w) (Nat.le_refl _) _ D _ _ (by rw [hsz] at hD; omega) hK' rfl rfl)⟩
 case stop =>
  rintro D c pre W hD ⟨t, rfl⟩ ⟨⟨rfl, hne⟩, hr0, hB⟩ hK;have c4 := hr0.cell;have HE := Lib.hid hne;clear hne
  gi_wp2
  refine ⟨by simp, .inl ⟨_, _, rfl, run_takeDeferred hK, ?_⟩⟩;have hc5 := cell_kept c4 (grownBy_putObj' _ D (.deferred none)) (fun r e => by cases e; exact ⟨_, hK, rfl⟩);exact ⟨.int .i64 (chkM pre), by simp [results, Tryz.f11, go_sem, hc5], by rw [hR.out, chkM_pre _ _ HE.out], hB.trans (belowK_b (w := w) (Nat.le_refl _) W D _ _ (by rw [hsz] at hD; omega) hK rfl rfl)⟩
end Go.Proofs.YthdoniefjmphaaaGreatDoor
