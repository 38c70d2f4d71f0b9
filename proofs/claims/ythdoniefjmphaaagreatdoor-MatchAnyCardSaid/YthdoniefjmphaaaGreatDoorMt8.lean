/- The reference's CheckMatch. -/
import Derived.Test.YthdoniefjmphaaaGreatDoorMt7
import Derived.Test.YthdoniefjmphaaaGreatDoorRComp
import Derived.Test.YthdoniefjmphaaaGreatDoorRefK
namespace Go.Proofs.YthdoniefjmphaaaGreatDoor
open Go Go.Proofs Go.RowKit Go.Shelf
set_option maxRecDepth 100000
theorem chkM_rest {zs : List SItm} {k : Nat} {x : SItm} (hx : zs[k]? = some x) (hP : chkM (zs.take k) = 0) : (chk1 x.1 = 0 → chkM (zs.take (k + 1)) = 0) ∧ (chk1 x.1 ≠ 0 → chkM zs = chk1 x.1) := by
 obtain ⟨hn, he⟩ := List.getElem?_eq_some_iff.1 hx;have ht : chkM (zs.take (k + 1)) = chk1 x.1 := by rw [List.take_succ_eq_append_getElem hn, he]; exact chkM_snoc _ _ hP
 refine ⟨fun h => by rw [ht]; exact h, fun h => ?_⟩;conv => lhs; rw [← List.take_append_drop (k + 1) zs]
 rw [chkM_pre _ _ (by rw [ht]; exact h), ht]
theorem rcomp_w (l : List UInt8) (w : World) : Calls Tryz.prog 24 #[.string ⟨l.toArray⟩] w fun e w' => (∃ (xo : Int) (xb : Bool) (sa : Option Addr) (sl sc : Nat) (ka : Option Addr) (kl kc : Nat) (p : Int), e = .returned (.tuple #[.agg #[.int .u8 xo, .bool xb, .slice sa sl sc, .slice ka kl kc], .int .i64 p, .int .i64 (compE l)])) ∧ Below w.heap.size w w' := by
 refine (rcompile_any ⟨l.toArray⟩ l rfl w).mono ?_;rintro e w' ⟨hb, x, at_, er, rfl, hm⟩;refine ⟨⟨x.o, x.n, x.sa, x.sl, x.sc, x.ka, x.kl, x.kc, at_, ?_⟩, hb⟩;have : er = compE l := by
  unfold compE;cases hc : Rx.compileF l with
  | ok q i => rw [hc] at hm; exact hm.2.1
  | bad e j => rw [hc] at hm; exact hm.1
 rw [this]; rfl
set_option maxHeartbeats 8000000 in
theorem rcheckM_any (sv : Value) (zs : List SItm) (hreach : zs.length ≤ 1000) (w : World) (hI : MtL w.heap.size w sv zs) :
  Calls Tryz.prog 9 #[sv] w fun e w' => e = .returned (.int .i64 (checkMR zs)) ∧ Below w.heap.size w w' := by
 obtain ⟨a, cap, rfl⟩ := hI.slice;by_cases h8 : 8 < zs.length
 ·
  have hR : Hid (checkMR zs = 4) := by unfold Hid checkMR; rw [if_pos h8]
  have hz : (8 : Int) < (zs.length : Int) := by omega
  go_enter Tryz.func9, Tryz.ntmps9
  go_wp2
  go_ret
  exact ⟨by rw [hR.out]; rfl, Below.refl _ _⟩
 have hR : Hid (checkMR zs = chkM zs) := by unfold Hid checkMR; rw [if_neg h8]
 have hz : ¬ (8 : Int) < (zs.length : Int) := by omega
 have HI := Lib.hid hI;clear hI;go_enter Tryz.func9, Tryz.ntmps9
 go_wp2
 go_loopw [3] (fun i wr => ∃ k : Nat, k ≤ zs.length ∧ i = .int .i64 (k : Int) ∧ chkM (zs.take k) = 0 ∧ Below w.heap.size w wr) (fun i _ => zs.length - (intOf i).toNat)
 case atStart => exact ⟨0, Nat.zero_le _, rfl, rfl, Below.refl _ _⟩
 case round =>
  obtain ⟨k, hk, rfl, hP, hBw⟩ := hrel;by_cases hlt : k < zs.length
  ·
   obtain ⟨x, hx⟩ : ∃ x, zs[k]? = some x := ⟨_, List.getElem?_eq_getElem hlt⟩;have hrest := chkM_rest hx hP;rcases HI.out.below hBw with ⟨_, rfl⟩ | ⟨b, off, c, e, hb, hc⟩
   ·
    simp at hlt
   obtain ⟨rfl, rfl⟩ : a = some ⟨b, off, none⟩ ∧ cap = c := by simpa using e
   obtain ⟨c0, c1, c2⟩ := hc k x hx;obtain ⟨⟨n, o, u⟩, hx0⟩ := x;dsimp only at hrest c0 c1 c2;obtain ⟨l1, l2, l3⟩ : n.length ≤ 1000 ∧ o.length ≤ 1000 ∧ u.length ≤ 1000 := hx0;have h0 : (0 : Int) ≤ (k : Int) := by omega
   have h1 : (k : Int) < (zs.length : Int) := by omega
   have NM := Lib.hid (fun W => rname_any n (by omega) W);have VL := Lib.hid (fun W => rvalue_any u (by omega) W);have RC := Lib.hid (fun W => rcomp_w u W);have RST := Lib.hid hrest;have HC := Lib.hid hc;have D := At.nw wr [.string ⟨n.toArray⟩, .string ⟨o.toArray⟩, .string ⟨u.toArray⟩] 43;have B0 := below_cells (w := wr) (.cells #[.string ⟨n.toArray⟩, .string ⟨o.toArray⟩, .string ⟨u.toArray⟩] 43);have HB := Lib.hid (hBw.trans (B0.mono hBw.size));have a0 := D.cell 0 _ rfl;have a1 := D.cell 1 _ rfl;have a2 := D.cell 2 _ rfl;have nD := D.lt;have eo : (⟨o.toArray⟩ : ByteArray).toList = o := by rw [ByteArray.toList_eq]
   have eu : (⟨u.toArray⟩ : ByteArray).toList = u := by rw [ByteArray.toList_eq]
   clear e hx hrest hP hc B0;rcases op_cases o with ho | ho | ho | ho | ho
   ·
    have e0 : (o == [61, 126]) = false := by rw [ho]; decide
    have e1 : (o == [33, 126]) = false := by rw [ho]; decide
    have e2 : (o == [61]) = true := by rw [ho]; decide
    have e3 : (o == [33, 61]) = false := by rw [ho]; decide
    have HP : Hid (isPat o = false) := by unfold Hid isPat; rw [e0, e1]; rfl
    have HQ : Hid (isOpB o = true) := by unfold Hid isOpB; rw [e2, e3, HP.out]; rfl
    clear ho;cases hn : nameR n
    ·
     have R : Hid (chk1 (n, o, u) = 5) := by unfold Hid chk1; rw [if_pos hn]
     have NM := Lib.hid (show ∀ W, _ from fun W => by have h := NM.out W; rw [hn] at h; exact h);clear hn;go_wp2_with fail
     refine (NM.out _).mono ?_;rintro e w1 ⟨rfl, rfl⟩;go_wp2
     go_ret
     exact ⟨by rw [hR.out, RST.out.2 (by rw [R.out]; decide), R.out]; rfl, HB.out⟩
    have NM := Lib.hid (show ∀ W, _ from fun W => by have h := NM.out W; rw [hn] at h; exact h);by_cases hu : u = []
    ·
     have q0 : (u == []) = true := by rw [beq_iff_eq]; exact hu
     have q1 : u.isEmpty = true := by rw [hu]; rfl
     have R : Hid (chk1 (n, o, u) = 0) := by unfold Hid chk1; rw [if_neg (by rw [hn]; simp), if_neg (by rw [HQ.out]; simp), if_neg (by rw [hu]; simp), if_neg (by rw [HP.out]; simp)]
     clear hn hu;go_wp2_with fail
     refine (NM.out _).mono ?_;rintro e w1 ⟨rfl, rfl⟩;go_wp2
     go_roundw
     case rel => exact ⟨k + 1, by omega, by go_num, RST.out.1 R.out, HB.out⟩
     case measure => simp [intOf]; omega
    have q0 : (u == []) = false := by rw [beq_eq_false_iff_ne]; exact hu
    have q1 : u.isEmpty = false := by cases u with | nil => exact absurd rfl hu | cons a t => rfl
    cases hv : valueR u
    ·
     have VL := Lib.hid (show ∀ W, _ from fun W => by have h := VL.out W; rw [hv] at h; exact h);have R : Hid (chk1 (n, o, u) = 1) := by unfold Hid chk1; rw [if_neg (by rw [hn]; simp), if_neg (by rw [HQ.out]; simp), if_pos (by rw [hv]; simp; exact fun h => hu (by simpa using h))]
     clear hn hv hu;go_wp2_with fail
     refine (NM.out _).mono ?_;rintro e w1 ⟨rfl, rfl⟩;go_wp2_with fail
     refine (VL.out _).mono ?_;rintro e w1 ⟨rfl, rfl⟩;go_wp2
     go_ret
     exact ⟨by rw [hR.out, RST.out.2 (by rw [R.out]; decide), R.out]; rfl, HB.out⟩
    have VL := Lib.hid (show ∀ W, _ from fun W => by have h := VL.out W; rw [hv] at h; exact h);have R : Hid (chk1 (n, o, u) = 0) := by unfold Hid chk1; rw [if_neg (by rw [hn]; simp), if_neg (by rw [HQ.out]; simp), if_neg (by rw [hv]; simp), if_neg (by rw [HP.out]; simp)]
    clear hn hu hv;go_wp2_with fail
    refine (NM.out _).mono ?_;rintro e w1 ⟨rfl, rfl⟩;go_wp2_with fail
    refine (VL.out _).mono ?_;rintro e w1 ⟨rfl, rfl⟩;go_wp2
    go_roundw
    case rel => exact ⟨k + 1, by omega, by go_num, RST.out.1 R.out, HB.out⟩
    case measure => simp [intOf]; omega
   ·
    have e0 : (o == [61, 126]) = false := by rw [ho]; decide
    have e1 : (o == [33, 126]) = false := by rw [ho]; decide
    have e2 : (o == [61]) = false := by rw [ho]; decide
    have e3 : (o == [33, 61]) = true := by rw [ho]; decide
    have HP : Hid (isPat o = false) := by unfold Hid isPat; rw [e0, e1]; rfl
    have HQ : Hid (isOpB o = true) := by unfold Hid isOpB; rw [e2, e3, HP.out]; rfl
    clear ho;cases hn : nameR n
    ·
     have R : Hid (chk1 (n, o, u) = 5) := by unfold Hid chk1; rw [if_pos hn]
     have NM := Lib.hid (show ∀ W, _ from fun W => by have h := NM.out W; rw [hn] at h; exact h);clear hn;go_wp2_with fail
     refine (NM.out _).mono ?_;rintro e w1 ⟨rfl, rfl⟩;go_wp2
     go_ret
     exact ⟨by rw [hR.out, RST.out.2 (by rw [R.out]; decide), R.out]; rfl, HB.out⟩
    have NM := Lib.hid (show ∀ W, _ from fun W => by have h := NM.out W; rw [hn] at h; exact h);by_cases hu : u = []
    ·
     have q0 : (u == []) = true := by rw [beq_iff_eq]; exact hu
     have q1 : u.isEmpty = true := by rw [hu]; rfl
     have R : Hid (chk1 (n, o, u) = 0) := by unfold Hid chk1; rw [if_neg (by rw [hn]; simp), if_neg (by rw [HQ.out]; simp), if_neg (by rw [hu]; simp), if_neg (by rw [HP.out]; simp)]
     clear hn hu;go_wp2_with fail
     refine (NM.out _).mono ?_;rintro e w1 ⟨rfl, rfl⟩;go_wp2
     go_roundw
     case rel => exact ⟨k + 1, by omega, by go_num, RST.out.1 R.out, HB.out⟩
     case measure => simp [intOf]; omega
    have q0 : (u == []) = false := by rw [beq_eq_false_iff_ne]; exact hu
    have q1 : u.isEmpty = false := by cases u with | nil => exact absurd rfl hu | cons a t => rfl
    cases hv : valueR u
    ·
     have VL := Lib.hid (show ∀ W, _ from fun W => by have h := VL.out W; rw [hv] at h; exact h);have R : Hid (chk1 (n, o, u) = 1) := by unfold Hid chk1; rw [if_neg (by rw [hn]; simp), if_neg (by rw [HQ.out]; simp), if_pos (by rw [hv]; simp; exact fun h => hu (by simpa using h))]
     clear hn hv hu;go_wp2_with fail
     refine (NM.out _).mono ?_;rintro e w1 ⟨rfl, rfl⟩;go_wp2_with fail
     refine (VL.out _).mono ?_;rintro e w1 ⟨rfl, rfl⟩;go_wp2
     go_ret
     exact ⟨by rw [hR.out, RST.out.2 (by rw [R.out]; decide), R.out]; rfl, HB.out⟩
    have VL := Lib.hid (show ∀ W, _ from fun W => by have h := VL.out W; rw [hv] at h; exact h);have R : Hid (chk1 (n, o, u) = 0) := by unfold Hid chk1; rw [if_neg (by rw [hn]; simp), if_neg (by rw [HQ.out]; simp), if_neg (by rw [hv]; simp), if_neg (by rw [HP.out]; simp)]
    clear hn hu hv;go_wp2_with fail
    refine (NM.out _).mono ?_;rintro e w1 ⟨rfl, rfl⟩;go_wp2_with fail
    refine (VL.out _).mono ?_;rintro e w1 ⟨rfl, rfl⟩;go_wp2
    go_roundw
    case rel => exact ⟨k + 1, by omega, by go_num, RST.out.1 R.out, HB.out⟩
    case measure => simp [intOf]; omega
   ·
    have e0 : (o == [61, 126]) = true := by rw [ho]; decide
    have e1 : (o == [33, 126]) = false := by rw [ho]; decide
    have e2 : (o == [61]) = false := by rw [ho]; decide
    have e3 : (o == [33, 61]) = false := by rw [ho]; decide
    have HP : Hid (isPat o = true) := by unfold Hid isPat; rw [e0, e1]; rfl
    have HQ : Hid (isOpB o = true) := by unfold Hid isOpB; rw [e2, e3, HP.out]; rfl
    clear ho;cases hn : nameR n
    ·
     have R : Hid (chk1 (n, o, u) = 5) := by unfold Hid chk1; rw [if_pos hn]
     have NM := Lib.hid (show ∀ W, _ from fun W => by have h := NM.out W; rw [hn] at h; exact h);clear hn;go_wp2_with fail
     refine (NM.out _).mono ?_;rintro e w1 ⟨rfl, rfl⟩;go_wp2
     go_ret
     exact ⟨by rw [hR.out, RST.out.2 (by rw [R.out]; decide), R.out]; rfl, HB.out⟩
    have NM := Lib.hid (show ∀ W, _ from fun W => by have h := NM.out W; rw [hn] at h; exact h);by_cases hu : u = []
    ·
     have q0 : (u == []) = true := by rw [beq_iff_eq]; exact hu
     have q1 : u.isEmpty = true := by rw [hu]; rfl
     have R : Hid (chk1 (n, o, u) = compE u) := by unfold Hid chk1; rw [if_neg (by rw [hn]; simp), if_neg (by rw [HQ.out]; simp), if_neg (by rw [hu]; simp), if_pos HP.out]
     clear hn hu;go_wp2_with fail
     refine (NM.out _).mono ?_;rintro e w1 ⟨rfl, rfl⟩;go_wp2_with fail
     refine (RC.out _).mono ?_;rintro e w2 ⟨⟨xo, xb, sa, sl, sc, ka, kl, kc, p, rfl⟩, hb2⟩;have HB := Lib.hid (HB.out.trans (hb2.mono HB.out.size));have HB := Lib.hid (below_new HB.out (nC xo xb sa sl sc ka kl kc));clear hb2 a0 a1 a2 nD;generalize compE u = C at *;by_cases hC : C = 0
     ·
      subst hC;go_wp2
      go_roundw
      case rel => exact ⟨k + 1, by omega, by go_num, RST.out.1 R.out, HB.out⟩
      case measure => simp [intOf]; omega
     ·
      have q9 : (C == 0) = false := by rw [beq_eq_false_iff_ne]; exact hC
      have Q := Lib.hid hC;clear hC;go_wp2
      go_ret
      exact ⟨by rw [hR.out, RST.out.2 (by rw [R.out]; exact Q.out), R.out]; rfl, HB.out⟩
    have q0 : (u == []) = false := by rw [beq_eq_false_iff_ne]; exact hu
    have q1 : u.isEmpty = false := by cases u with | nil => exact absurd rfl hu | cons a t => rfl
    cases hv : valueR u
    ·
     have VL := Lib.hid (show ∀ W, _ from fun W => by have h := VL.out W; rw [hv] at h; exact h);have R : Hid (chk1 (n, o, u) = 1) := by unfold Hid chk1; rw [if_neg (by rw [hn]; simp), if_neg (by rw [HQ.out]; simp), if_pos (by rw [hv]; simp; exact fun h => hu (by simpa using h))]
     clear hn hv hu;go_wp2_with fail
     refine (NM.out _).mono ?_;rintro e w1 ⟨rfl, rfl⟩;go_wp2_with fail
     refine (VL.out _).mono ?_;rintro e w1 ⟨rfl, rfl⟩;go_wp2
     go_ret
     exact ⟨by rw [hR.out, RST.out.2 (by rw [R.out]; decide), R.out]; rfl, HB.out⟩
    have VL := Lib.hid (show ∀ W, _ from fun W => by have h := VL.out W; rw [hv] at h; exact h);have R : Hid (chk1 (n, o, u) = compE u) := by unfold Hid chk1; rw [if_neg (by rw [hn]; simp), if_neg (by rw [HQ.out]; simp), if_neg (by rw [hv]; simp), if_pos HP.out]
    clear hn hu hv;go_wp2_with fail
    refine (NM.out _).mono ?_;rintro e w1 ⟨rfl, rfl⟩;go_wp2_with fail
    refine (VL.out _).mono ?_;rintro e w1 ⟨rfl, rfl⟩;go_wp2_with fail
    refine (RC.out _).mono ?_;rintro e w2 ⟨⟨xo, xb, sa, sl, sc, ka, kl, kc, p, rfl⟩, hb2⟩;have HB := Lib.hid (HB.out.trans (hb2.mono HB.out.size));have HB := Lib.hid (below_new HB.out (nC xo xb sa sl sc ka kl kc));clear hb2 a0 a1 a2 nD;generalize compE u = C at *;by_cases hC : C = 0
    ·
     subst hC;go_wp2
     go_roundw
     case rel => exact ⟨k + 1, by omega, by go_num, RST.out.1 R.out, HB.out⟩
     case measure => simp [intOf]; omega
    ·
     have q9 : (C == 0) = false := by rw [beq_eq_false_iff_ne]; exact hC
     have Q := Lib.hid hC;clear hC;go_wp2
     go_ret
     exact ⟨by rw [hR.out, RST.out.2 (by rw [R.out]; exact Q.out), R.out]; rfl, HB.out⟩
   ·
    have e0 : (o == [61, 126]) = false := by rw [ho]; decide
    have e1 : (o == [33, 126]) = true := by rw [ho]; decide
    have e2 : (o == [61]) = false := by rw [ho]; decide
    have e3 : (o == [33, 61]) = false := by rw [ho]; decide
    have HP : Hid (isPat o = true) := by unfold Hid isPat; rw [e0, e1]; rfl
    have HQ : Hid (isOpB o = true) := by unfold Hid isOpB; rw [e2, e3, HP.out]; rfl
    clear ho;cases hn : nameR n
    ·
     have R : Hid (chk1 (n, o, u) = 5) := by unfold Hid chk1; rw [if_pos hn]
     have NM := Lib.hid (show ∀ W, _ from fun W => by have h := NM.out W; rw [hn] at h; exact h);clear hn;go_wp2_with fail
     refine (NM.out _).mono ?_;rintro e w1 ⟨rfl, rfl⟩;go_wp2
     go_ret
     exact ⟨by rw [hR.out, RST.out.2 (by rw [R.out]; decide), R.out]; rfl, HB.out⟩
    have NM := Lib.hid (show ∀ W, _ from fun W => by have h := NM.out W; rw [hn] at h; exact h);by_cases hu : u = []
    ·
     have q0 : (u == []) = true := by rw [beq_iff_eq]; exact hu
     have q1 : u.isEmpty = true := by rw [hu]; rfl
     have R : Hid (chk1 (n, o, u) = compE u) := by unfold Hid chk1; rw [if_neg (by rw [hn]; simp), if_neg (by rw [HQ.out]; simp), if_neg (by rw [hu]; simp), if_pos HP.out]
     clear hn hu;go_wp2_with fail
     refine (NM.out _).mono ?_;rintro e w1 ⟨rfl, rfl⟩;go_wp2_with fail
     refine (RC.out _).mono ?_;rintro e w2 ⟨⟨xo, xb, sa, sl, sc, ka, kl, kc, p, rfl⟩, hb2⟩;have HB := Lib.hid (HB.out.trans (hb2.mono HB.out.size));have HB := Lib.hid (below_new HB.out (nC xo xb sa sl sc ka kl kc));clear hb2 a0 a1 a2 nD;generalize compE u = C at *;by_cases hC : C = 0
     ·
      subst hC;go_wp2
      go_roundw
      case rel => exact ⟨k + 1, by omega, by go_num, RST.out.1 R.out, HB.out⟩
      case measure => simp [intOf]; omega
     ·
      have q9 : (C == 0) = false := by rw [beq_eq_false_iff_ne]; exact hC
      have Q := Lib.hid hC;clear hC;go_wp2
      go_ret
      exact ⟨by rw [hR.out, RST.out.2 (by rw [R.out]; exact Q.out), R.out]; rfl, HB.out⟩
    have q0 : (u == []) = false := by rw [beq_eq_false_iff_ne]; exact hu
    have q1 : u.isEmpty = false := by cases u with | nil => exact absurd rfl hu | cons a t => rfl
    cases hv : valueR u
    ·
     have VL := Lib.hid (show ∀ W, _ from fun W => by have h := VL.out W; rw [hv] at h; exact h);have R : Hid (chk1 (n, o, u) = 1) := by unfold Hid chk1; rw [if_neg (by rw [hn]; simp), if_neg (by rw [HQ.out]; simp), if_pos (by rw [hv]; simp; exact fun h => hu (by simpa using h))]
     clear hn hv hu;go_wp2_with fail
     refine (NM.out _).mono ?_;rintro e w1 ⟨rfl, rfl⟩;go_wp2_with fail
     refine (VL.out _).mono ?_;rintro e w1 ⟨rfl, rfl⟩;go_wp2
     go_ret
     exact ⟨by rw [hR.out, RST.out.2 (by rw [R.out]; decide), R.out]; rfl, HB.out⟩
    have VL := Lib.hid (show ∀ W, _ from fun W => by have h := VL.out W; rw [hv] at h; exact h);have R : Hid (chk1 (n, o, u) = compE u) := by unfold Hid chk1; rw [if_neg (by rw [hn]; simp), if_neg (by rw [HQ.out]; simp), if_neg (by rw [hv]; simp), if_pos HP.out]
    clear hn hu hv;go_wp2_with fail
    refine (NM.out _).mono ?_;rintro e w1 ⟨rfl, rfl⟩;go_wp2_with fail
    refine (VL.out _).mono ?_;rintro e w1 ⟨rfl, rfl⟩;go_wp2_with fail
    refine (RC.out _).mono ?_;rintro e w2 ⟨⟨xo, xb, sa, sl, sc, ka, kl, kc, p, rfl⟩, hb2⟩;have HB := Lib.hid (HB.out.trans (hb2.mono HB.out.size));have HB := Lib.hid (below_new HB.out (nC xo xb sa sl sc ka kl kc));clear hb2 a0 a1 a2 nD;generalize compE u = C at *;by_cases hC : C = 0
    ·
     subst hC;go_wp2
     go_roundw
     case rel => exact ⟨k + 1, by omega, by go_num, RST.out.1 R.out, HB.out⟩
     case measure => simp [intOf]; omega
    ·
     have q9 : (C == 0) = false := by rw [beq_eq_false_iff_ne]; exact hC
     have Q := Lib.hid hC;clear hC;go_wp2
     go_ret
     exact ⟨by rw [hR.out, RST.out.2 (by rw [R.out]; exact Q.out), R.out]; rfl, HB.out⟩
   ·
    have e0 : (o == [61, 126]) = false := by rw [beq_eq_false_iff_ne]; exact ho.2.2.1
    have e1 : (o == [33, 126]) = false := by rw [beq_eq_false_iff_ne]; exact ho.2.2.2
    have e2 : (o == [61]) = false := by rw [beq_eq_false_iff_ne]; exact ho.1
    have e3 : (o == [33, 61]) = false := by rw [beq_eq_false_iff_ne]; exact ho.2.1
    have HP : Hid (isPat o = false) := by unfold Hid isPat; rw [e0, e1]; rfl
    have HQ : Hid (isOpB o = false) := by unfold Hid isOpB; rw [e2, e3, HP.out]; rfl
    clear ho;cases hn : nameR n
    ·
     have R : Hid (chk1 (n, o, u) = 5) := by unfold Hid chk1; rw [if_pos hn]
     have NM := Lib.hid (show ∀ W, _ from fun W => by have h := NM.out W; rw [hn] at h; exact h);clear hn;go_wp2_with fail
     refine (NM.out _).mono ?_;rintro e w1 ⟨rfl, rfl⟩;go_wp2
     go_ret
     exact ⟨by rw [hR.out, RST.out.2 (by rw [R.out]; decide), R.out]; rfl, HB.out⟩
    have NM := Lib.hid (show ∀ W, _ from fun W => by have h := NM.out W; rw [hn] at h; exact h);have R : Hid (chk1 (n, o, u) = 2) := by unfold Hid chk1; rw [if_neg (by rw [hn]; simp), if_pos HQ.out]
    clear hn;go_wp2_with fail
    refine (NM.out _).mono ?_;rintro e w1 ⟨rfl, rfl⟩;go_wp2
    go_ret
    exact ⟨by rw [hR.out, RST.out.2 (by rw [R.out]; decide), R.out]; rfl, HB.out⟩
  ·
   obtain rfl : k = zs.length := by omega
   rw [List.take_length] at hP;have HP := Lib.hid hP;clear hP;go_wp2
   go_ret
   exact ⟨by rw [hR.out, HP.out]; rfl, hBw⟩
end Go.Proofs.YthdoniefjmphaaaGreatDoor
