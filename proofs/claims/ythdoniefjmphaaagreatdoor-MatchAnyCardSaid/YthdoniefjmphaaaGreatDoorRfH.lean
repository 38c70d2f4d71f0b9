/- The reference's Holds. -/
import Derived.Test.YthdoniefjmphaaaGreatDoorRfG
import Derived.Test.YthdoniefjmphaaaGreatDoorMt8
import Derived.Test.YthdoniefjmphaaaGreatDoorRMatch
namespace Go.Proofs.YthdoniefjmphaaaGreatDoor
open Go Go.Proofs Go.RowKit Go.Shelf
set_option maxRecDepth 100000
theorem comp_few {l : List UInt8} {P : Rx.Pt} {z : Nat} (h : Rx.compileF l = .ok P z) : Rx.leaves P < 256 := by
 unfold Rx.compileF at h;split at h
 ·
  cases h
 ·
  have g := Rx.choice_goes (Rx.inner_goes (l := l) 9) (k := 0) (Nat.zero_le _);cases hs : Rx.choiceF (Rx.innerF l 9) l 0 with
  | bad e j => rw [hs] at h; cases h
  | ok q j =>
   rw [hs] at h g;obtain ⟨g1, g2, g3⟩ := g;unfold Rx.Few at g3;dsimp only at h;split at h
   ·
    cases h
   ·
    have e := (Rx.Res.ok.inj h).1;subst e;omega
theorem rcompM_w (l v : List UInt8) (hE : compE l = 0) (hv : v.length ≤ 66) (w : World) : Calls Tryz.prog 24 #[.string ⟨l.toArray⟩] w fun e w' => Below w.heap.size w w' ∧ ∃ (xo : Int) (xb : Bool) (sa : Option Addr) (sl sc : Nat) (ka : Option Addr) (kl kc : Nat) (p q : Int), e = .returned (.tuple #[.agg #[.int .u8 xo, .bool xb, .slice sa sl sc, .slice ka kl kc], .int .i64 p, .int .i64 q]) ∧ ∀ W, Below w'.heap.size w' W → Calls Tryz.prog 34 #[.agg #[.int .u8 xo, .bool xb, .slice sa sl sc, .slice ka kl kc], .string ⟨v.toArray⟩] W fun e W' => e = .returned (.bool (takesR l v)) ∧ Below W.heap.size W W' := by
 obtain ⟨P, z, hA⟩ : ∃ P z, Rx.compileF l = .ok P z := by
  cases hc : Rx.compileF l with
  | ok q i => exact ⟨q, i, rfl⟩
  | bad e j =>
   have := comp_bad hc;unfold compE at hE;rw [hc] at hE;dsimp only at hE;omega
 have hlv := comp_few hA;refine (rcompile_any ⟨l.toArray⟩ l rfl w).mono ?_;rintro e w' ⟨hb, ⟨xo, xb, sa, sl, sc, ka, kl, kc⟩, at_, er, rfl, hm⟩;rw [hA] at hm;obtain ⟨-, -, d, hnd⟩ := hm;refine ⟨hb, xo, xb, sa, sl, sc, ka, kl, kc, at_, er, rfl, fun W hW => ?_⟩;have hT : takesR l v = Rx.matchN P v := by unfold takesR; rw [hA]
 have hN := hnd.keep (S' := fun g => g < w'.heap.size) (fun g hg => hg.2) (fun g hg => hW.block g hg.2);exact rmatch_any d ⟨xo, xb, sa, sl, sc, ka, kl, kc⟩ P _ W hN (fun g hg => Nat.lt_of_lt_of_le hg hW.size) ⟨v.toArray⟩ v rfl hv (takesR l v) (by rw [hT]; exact Rx.match_lang P hlv v)
theorem pat_ok {n u0 u : List UInt8} (h : chk1 (n, u0, u) = 0) (hp : isPat u0 = true) : compE u = 0 := by
 unfold chk1 at h;dsimp only at h;by_cases a1 : nameR n = false
 ·
  rw [if_pos a1] at h; omega
 by_cases a2 : isOpB u0 = false
 ·
  rw [if_neg a1, if_pos a2] at h; omega
 by_cases a3 : (!u.isEmpty && !valueR u) = true
 ·
  rw [if_neg a1, if_neg a2, if_pos a3] at h; omega
 rw [if_neg a1, if_neg a2, if_neg a3, if_pos hp] at h;exact h
theorem op_bad {n u0 u : List UInt8} (ho : u0 ≠ [61] ∧ u0 ≠ [33, 61] ∧ u0 ≠ [61, 126] ∧ u0 ≠ [33, 126]) : chk1 (n, u0, u) ≠ 0 := by
 intro h;unfold chk1 at h;dsimp only at h;by_cases a1 : nameR n = false
 ·
  rw [if_pos a1] at h; omega
 have a2 : isOpB u0 = false := by
  unfold isOpB isPat;rw [beq_eq_false_iff_ne.2 ho.1, beq_eq_false_iff_ne.2 ho.2.1, beq_eq_false_iff_ne.2 ho.2.2.1, beq_eq_false_iff_ne.2 ho.2.2.2]; rfl
 rw [if_neg a1, if_pos a2] at h;omega
theorem holds_step {zs : List SItm} {ls : List SLab} {k : Nat} {x : SItm} (hx : zs[k]? = some x) (hP : holdsR (zs.take k) ls = true) : (holds1 x.1 (getR x.1.1 ls) = true → holdsR (zs.take (k + 1)) ls = true) ∧ (holds1 x.1 (getR x.1.1 ls) = false → holdsR zs ls = false) := by
 obtain ⟨hn, he⟩ := List.getElem?_eq_some_iff.1 hx;have ht : holdsR (zs.take (k + 1)) ls = holds1 x.1 (getR x.1.1 ls) := by rw [List.take_succ_eq_append_getElem hn, he]; exact holdsR_one _ _ _ hP
 exact ⟨fun h => by rw [ht]; exact h, fun h => holdsR_pre _ _ _ (List.take_prefix _ _) (by rw [ht]; exact h)⟩
set_option maxHeartbeats 8000000 in
theorem rholds_any (sv : Value) (zs : List SItm) (hreach : zs.length ≤ 1000) (hC : ∀ x ∈ zs, chk1 x.1 = 0) (a2 : Option Addr) (n2 c2 : Nat) (ls : List SLab) (hr2 : ls.length ≤ 100) (hv2 : ∀ y ∈ ls, y.1.2.length ≤ 66) (w : World) (hI : MtL w.heap.size w sv zs) (hL : Labs w.heap.size w (.slice a2 n2 c2) ls) :
  Calls Tryz.prog 15 #[sv, .slice a2 n2 c2] w fun e w' => e = .returned (.bool (holdsR zs ls)) ∧ Below w.heap.size w w' := by
 obtain ⟨a, cap, rfl⟩ := hI.slice;have HI := Lib.hid hI;have HLL := Lib.hid hL;have HV := Lib.hid hv2;have HCC := Lib.hid hC;clear hI hL hv2 hC;go_enter Tryz.func15, Tryz.ntmps15
 go_wp2
 go_loopw [5] (fun i wr => ∃ k : Nat, k ≤ zs.length ∧ i = .int .i64 (k : Int) ∧ holdsR (zs.take k) ls = true ∧ Below w.heap.size w wr) (fun i _ => zs.length - (intOf i).toNat)
 case atStart => exact ⟨0, Nat.zero_le _, rfl, rfl, Below.refl _ _⟩
 case round =>
  obtain ⟨k, hk, rfl, hP, hBw⟩ := hrel;by_cases hlt : k < zs.length
  ·
   obtain ⟨x, hx⟩ : ∃ x, zs[k]? = some x := ⟨_, List.getElem?_eq_getElem hlt⟩;have hrest := holds_step hx hP;have hc1 := HCC.out x (List.mem_of_getElem? hx);rcases HI.out.below hBw with ⟨_, rfl⟩ | ⟨b, off, c, e, hb, hc⟩
   ·
    simp at hlt
   obtain ⟨rfl, rfl⟩ : a = some ⟨b, off, none⟩ ∧ cap = c := by simpa using e
   obtain ⟨⟨n, u0, u⟩, hx0⟩ := x;have HC3 := Lib.hid (fun (W : World) (hW : Below wr.heap.size wr W) => (show W.cell? ⟨b, off + k * 3, none⟩ = some (.string ⟨n.toArray⟩) ∧ W.cell? ⟨b, off + k * 3 + 1, none⟩ = some (.string ⟨u0.toArray⟩) ∧ W.cell? ⟨b, off + k * 3 + 2, none⟩ = some (.string ⟨u.toArray⟩) from by
    obtain ⟨d0, d1, d2⟩ := hc k _ hx;have hbb : b < wr.heap.size := Nat.lt_of_lt_of_le hb hBw.size;exact ⟨(hW.cell hbb).trans d0, (hW.cell hbb).trans d1, (hW.cell hbb).trans d2⟩))
   obtain ⟨c0, c1, c2'⟩ := HC3.out wr (Below.refl _ _);dsimp only at hrest hc1;obtain ⟨l1, l2, l3⟩ : n.length ≤ 1000 ∧ u0.length ≤ 1000 ∧ u.length ≤ 1000 := hx0;have h0 : (0 : Int) ≤ (k : Int) := by omega
   have h1 : (k : Int) < (zs.length : Int) := by omega
   have GT := Lib.hid (rget_any a2 n2 c2 ls hr2 n w.heap.size wr (HLL.out.below hBw));have HB0 := Lib.hid hBw.size;have hvl := get_len n ls 66 HV.out;obtain ⟨v, hv⟩ : ∃ v, getR n ls = v := ⟨_, rfl⟩;rw [hv] at GT hrest hvl;have RC := Lib.hid (fun (hE : compE u = 0) W => rcompM_w u v hE hvl W);have RST := Lib.hid hrest;have HB := Lib.hid hBw;have ev : (⟨v.toArray⟩ : ByteArray).toList = v := by rw [ByteArray.toList_eq]
   have eo : (⟨u0.toArray⟩ : ByteArray).toList = u0 := by rw [ByteArray.toList_eq]
   have eu : (⟨u.toArray⟩ : ByteArray).toList = u := by rw [ByteArray.toList_eq]
   obtain ⟨o, ho'⟩ : ∃ o, u0 = o := ⟨_, rfl⟩;subst ho';clear e hx hrest hP hc hv hBw;rcases op_cases u0 with ho | ho | ho | ho | ho
   ·
    have e0 : (u0 == [61, 126]) = false := by rw [ho]; decide
    have e1 : (u0 == [33, 126]) = false := by rw [ho]; decide
    have e2 : (u0 == [61]) = true := by rw [ho]; decide
    clear RC HC3;by_cases q : v = u
    ·
     have q1 : (v == u) = true := by rw [beq_iff_eq]; exact q
     have R : Hid (holds1 (n, u0, u) v = true) := by unfold Hid holds1; rw [ho]; dsimp only; rw [if_pos rfl]; exact q1
     clear ho q;go_wp2_with fail
     refine GT.out.mono ?_;rintro e w1 ⟨rfl, rfl⟩;go_wp2
     go_roundw
     case rel => exact ⟨k + 1, by omega, by go_num, RST.out.1 R.out, HB.out⟩
     case measure => simp [intOf]; omega
    ·
     have q1 : (v == u) = false := by rw [beq_eq_false_iff_ne]; exact q
     have R : Hid (holds1 (n, u0, u) v = false) := by unfold Hid holds1; rw [ho]; dsimp only; rw [if_pos rfl]; exact q1
     clear ho q;go_wp2_with fail
     refine GT.out.mono ?_;rintro e w1 ⟨rfl, rfl⟩;go_wp2
     go_ret
     exact ⟨by rw [RST.out.2 R.out]; rfl, HB.out⟩
   ·
    have e0 : (u0 == [61, 126]) = false := by rw [ho]; decide
    have e1 : (u0 == [33, 126]) = false := by rw [ho]; decide
    have e2 : (u0 == [61]) = false := by rw [ho]; decide
    clear RC HC3;by_cases q : v = u
    ·
     have q1 : (v == u) = true := by rw [beq_iff_eq]; exact q
     have R : Hid (holds1 (n, u0, u) v = false) := by unfold Hid holds1; rw [ho]; dsimp only; rw [if_neg (by decide), if_pos rfl]; simp [q]
     clear ho q;go_wp2_with fail
     refine GT.out.mono ?_;rintro e w1 ⟨rfl, rfl⟩;go_wp2
     go_ret
     exact ⟨by rw [RST.out.2 R.out]; rfl, HB.out⟩
    ·
     have q1 : (v == u) = false := by rw [beq_eq_false_iff_ne]; exact q
     have R : Hid (holds1 (n, u0, u) v = true) := by unfold Hid holds1; rw [ho]; dsimp only; rw [if_neg (by decide), if_pos rfl]; simp [q]
     clear ho q;go_wp2_with fail
     refine GT.out.mono ?_;rintro e w1 ⟨rfl, rfl⟩;go_wp2
     go_roundw
     case rel => exact ⟨k + 1, by omega, by go_num, RST.out.1 R.out, HB.out⟩
     case measure => simp [intOf]; omega
   ·
    have e0 : (u0 == [61, 126]) = true := by rw [ho]; decide
    have e1 : (u0 == [33, 126]) = false := by rw [ho]; decide
    have e2 : (u0 == [61]) = false := by rw [ho]; decide
    have hE : compE u = 0 := pat_ok hc1 (by rw [ho]; decide);have R0 : Hid (holds1 (n, u0, u) v = takesR u v) := by unfold Hid holds1; rw [ho]; dsimp only; rw [if_neg (by decide), if_neg (by decide), if_pos rfl]
    have RC := Lib.hid (RC.out hE);clear ho hE hc1;go_wp2_with fail
    refine GT.out.mono ?_;rintro e w1 ⟨rfl, rfl⟩;go_wp2_with fail
    refine (RC.out _).mono ?_;rintro e w2 ⟨hb2, xo, xb, sa, sl, sc, ka, kl, kc, p, q, rfl, hM⟩;have hb3 := below_new hb2 (nC xo xb sa sl sc ka kl kc);have D := At.nwn _ w2 xo xb sa sl sc ka kl kc rfl;have MT := Lib.hid (hM _ (below_cells (w := w2) (nC xo xb sa sl sc ka kl kc)));have HB := Lib.hid (HB.out.trans (hb3.mono HB.out.size));have a0 := D.cell 0 _ rfl;have a1 := D.cell 1 _ rfl;have a2' := D.cell 2 _ rfl;have a3 := D.cell 3 _ rfl;have nD := D.lt;obtain ⟨k0, k1, k2⟩ := HC3.out _ hb3;have HS3 := Lib.hid hb3.size;clear hb2 hM c0 c1 c2' RC HC3 hb3;generalize takesR u v = tk at *;go_wp2_with fail
    refine MT.out.mono ?_;rintro e w4 ⟨rfl, hb4⟩;obtain ⟨k1⟩ : PLift (w4.cell? ⟨b, off + k * 3 + 1, none⟩ = some (.string ⟨u0.toArray⟩)) := ⟨(hb4.cell (Nat.lt_of_lt_of_le (Nat.lt_of_lt_of_le hb HB0.out) HS3.out)).trans k1⟩;have HB := Lib.hid (HB.out.trans (hb4.mono HB.out.size));clear hb4;cases tk
    ·
     have R : Hid (holds1 (n, u0, u) v = false) := R0.out;go_wp2
     go_ret
     exact ⟨by rw [RST.out.2 R.out]; rfl, HB.out⟩
    ·
     have R : Hid (holds1 (n, u0, u) v = true) := R0.out;go_wp2
     go_roundw
     case rel => exact ⟨k + 1, by omega, by go_num, RST.out.1 R.out, HB.out⟩
     case measure => simp [intOf]; omega
   ·
    have e0 : (u0 == [61, 126]) = false := by rw [ho]; decide
    have e1 : (u0 == [33, 126]) = true := by rw [ho]; decide
    have e2 : (u0 == [61]) = false := by rw [ho]; decide
    have hE : compE u = 0 := pat_ok hc1 (by rw [ho]; decide);have R0 : Hid (holds1 (n, u0, u) v = !takesR u v) := by unfold Hid holds1; rw [ho]; dsimp only; rw [if_neg (by decide), if_neg (by decide), if_neg (by decide), if_pos rfl]
    have RC := Lib.hid (RC.out hE);clear ho hE hc1;go_wp2_with fail
    refine GT.out.mono ?_;rintro e w1 ⟨rfl, rfl⟩;go_wp2_with fail
    refine (RC.out _).mono ?_;rintro e w2 ⟨hb2, xo, xb, sa, sl, sc, ka, kl, kc, p, q, rfl, hM⟩;have hb3 := below_new hb2 (nC xo xb sa sl sc ka kl kc);have D := At.nwn _ w2 xo xb sa sl sc ka kl kc rfl;have MT := Lib.hid (hM _ (below_cells (w := w2) (nC xo xb sa sl sc ka kl kc)));have HB := Lib.hid (HB.out.trans (hb3.mono HB.out.size));have a0 := D.cell 0 _ rfl;have a1 := D.cell 1 _ rfl;have a2' := D.cell 2 _ rfl;have a3 := D.cell 3 _ rfl;have nD := D.lt;obtain ⟨k0, k1, k2⟩ := HC3.out _ hb3;have HS3 := Lib.hid hb3.size;clear hb2 hM c0 c1 c2' RC HC3 hb3;generalize takesR u v = tk at *;go_wp2_with fail
    refine MT.out.mono ?_;rintro e w4 ⟨rfl, hb4⟩;obtain ⟨k1⟩ : PLift (w4.cell? ⟨b, off + k * 3 + 1, none⟩ = some (.string ⟨u0.toArray⟩)) := ⟨(hb4.cell (Nat.lt_of_lt_of_le (Nat.lt_of_lt_of_le hb HB0.out) HS3.out)).trans k1⟩;have HB := Lib.hid (HB.out.trans (hb4.mono HB.out.size));clear hb4;cases tk
    ·
     have R : Hid (holds1 (n, u0, u) v = true) := R0.out;go_wp2
     go_roundw
     case rel => exact ⟨k + 1, by omega, by go_num, RST.out.1 R.out, HB.out⟩
     case measure => simp [intOf]; omega
    ·
     have R : Hid (holds1 (n, u0, u) v = false) := R0.out;go_wp2
     go_ret
     exact ⟨by rw [RST.out.2 R.out]; rfl, HB.out⟩
   ·
    exact absurd hc1 (op_bad ho)
  ·
   obtain rfl : k = zs.length := by omega
   rw [List.take_length] at hP;have HP := Lib.hid hP;clear hP;go_wp2
   go_ret
   exact ⟨by rw [HP.out]; rfl, hBw⟩
end Go.Proofs.YthdoniefjmphaaaGreatDoor
