/- match.items: the matchers as items, one by one: an iterator that itself ranges. -/
import Derived.Test.YthdoniefjmphaaaGreatDoorMt5
import Derived.Test.YthdoniefjmphaaaGreatDoorOnly
import Derived.Test.YthdoniefjmphaaaGreatDoorCheck
import Derived.Test.YthdoniefjmphaaaGreatDoorBrL
namespace Go.Proofs.YthdoniefjmphaaaGreatDoor
open Go Go.Proofs Go.RowKit Go.Shelf
set_option maxRecDepth 100000
attribute [local go_sem] Oper.semAt_some
theorem own_laterI {β : Type} {B B' : Nat} {J : β → World → Prop} (h : OwnFrom B J) (hB : B ≤ B') : OwnFrom B' J := fun s W W' row hs hg hr => h s W W' row hs hg (fun r e => ⟨Nat.le_trans hB (hr r e).1, (hr r e).2⟩)
set_option maxHeartbeats 8000000 in
theorem mitems_stops (Bs n₀ : Nat) (sv : Value) (zs : List SItm) (hreach : zs.length ≤ 1000000) (w : World) (hn₀ : n₀ ≤ w.heap.size) (h1 : Bs < n₀)
  (hs : w.cell? ⟨Bs, 0, none⟩ = some sv) (hL : MtL n₀ w sv zs) :
  SeqStopsJ 5 Fence.wide 8 Tryz.prog 44 #[.pointer (some ⟨Bs, 0, none⟩)] (fun x : SItm => #[itmV x.1]) n₀ (fun ys => ys = zs) (fun pre => pre <+: zs) zs.length w := by
 intro l J Jx W hW hJ hJx hY h0;have hsz0 : n₀ ≤ W.heap.size := Nat.le_trans hn₀ hW.size;have hw0 : Below n₀ w W := hW.mono hn₀;have hs := (hw0.cell (p := ⟨Bs, 0, none⟩) h1).trans hs;have hL := hL.below hw0;clear hw0 hW;refine callsIn_of_wp_marks Tryz.func44 rfl trivial ?_ rfl;simp only [Tryz.ntmps44, List.size_toArray, List.length_cons, List.length_nil, Nat.reduceAdd, Nat.reduceSub, Array.replicate_succ, Array.replicate_zero, List.push_toArray, List.append_toArray, List.nil_append, List.cons_append];have hsh : ∃ a len cap, sv = .slice a len cap := by
  rcases hL with ⟨⟨_, _, rfl⟩, _⟩ | ⟨b, off, cap, rfl, _⟩
  ·
   exact ⟨_, _, _, rfl⟩
  ·
   exact ⟨_, _, _, rfl⟩
 obtain ⟨a, len, cap, rfl⟩ := hsh;have H0 := Lib.hid h0;have HY := Lib.hid hY;clear h0 hY;have ba : Below n₀ W (W.alloc (.cells #[.func (.yield l) #[] #[]] 87)) := (Below.refl n₀ W).alloc hsz0 _;have hs1 := (ba.cell (p := ⟨Bs, 0, none⟩) h1).trans hs;clear ba
 gi_wp2
 refine ⟨trivial, (mvalues_in Fence.wide 7 trivial rfl _ _ _ _).mono ?_⟩;rintro e w1 ⟨rfl, rfl⟩
 gi_wp2
 obtain ⟨W0, hW0⟩ : ∃ W0, ((W.alloc (.cells #[.func (.yield l) #[] #[]] 87)).alloc (.cells #[.slice a len cap] 22)) = W0 := ⟨_, rfl⟩;have hlp : Below W.heap.size W W0 := by rw [← hW0]; go_grown
 have hsz : W0.heap.size = W.heap.size + 2 := by rw [← hW0]; simp
 have by0 : Boxed W0 W.heap.size 87 (.func (.yield l) #[] #[]) := by
  rw [← hW0];exact (Boxed.new W 87 (.func (.yield l) #[] #[])).alloc _
 have bs0 : W0.cell? ⟨W.heap.size + 1, 0, none⟩ = some (.slice a len cap) := by
  rw [← hW0];have h := Boxed.new (W.alloc (.cells #[.func (.yield l) #[] #[]] 87)) 22 (.slice a len cap);rw [World.size_alloc] at h;exact h.cell
 have hj0 : J [] W0 := by rw [← hW0]; exact hJ.alloc _ (hJ.alloc _ H0.out)
 have h00 : Below n₀ W W0 := hlp.mono hsz0;have hL0 := hL.below h00;rw [hW0];clear hs1 hs hL H0 hW0;refine wpIn_rangeFunc_ownH (F := Fence.wide) (n := 8) rfl (by omega) (gf := 39) (lb := #[.pointer (some ⟨W.heap.size + 1, 0, none⟩)]) rfl trivial (enters_of Tryz.func39 (by kernel_rfl) rfl)
  (encs := fun x => #[itmV x.1]) (Kp := Below n₀) (mvalues_stops Fence.wide (8 - 1) trivial rfl (by omega) (W.heap.size + 1) n₀ (.slice a len cap) zs (by omega) W0 (by omega) (by omega) bs0 hL0) belowK_t (belowK_b (by omega)) (Below.refl _ _) (fun _ => rfl)
  (fun pre V => J pre V ∧ Boxed V W.heap.size 87 (.func (.yield l) #[] #[]) ∧ Below n₀ W0 V)
  (fun c pre V => c = .ret ∧ Jx pre V)
  (OwnFrom.and (own_laterI hJ (by omega)) (OwnFrom.and (Own.from (boxed_own W.heap.size 87 (fun _ => .func (.yield l) #[] #[])) _) (ownFrom_below (by omega) (by omega))))
  (fun c => OwnFrom.and (ownFrom_pure _ _) (own_laterI hJx (by omega)))
  ⟨hj0, by0, Below.refl _ _⟩
  (fun x a' V => ∃ Bx, W.heap.size + 1 < Bx ∧ Blk V Bx #[.string ⟨x.1.1.toArray⟩, .string ⟨x.1.2.1.toArray⟩, .string ⟨x.1.2.2.toArray⟩] 49 ∧ a' = { tmps := #[.func (.yield l) #[] #[], .pointer (some ⟨Bs, 0, none⟩), .pointer (some ⟨W.heap.size, 0, none⟩), .pointer (some ⟨Bx, 0, none⟩), .slice a len cap, .func (.func 39) #[] #[.pointer (some ⟨W.heap.size + 1, 0, none⟩)], .agg #[.string ⟨x.1.1.toArray⟩, .string ⟨x.1.2.1.toArray⟩, .string ⟨x.1.2.2.toArray⟩], undef, undef, undef, undef], defers := [] })
  (fun x a' => ?ax) ?assign ?body ?done ?stop
 case ax => exact fun s X Y row ⟨Bx, q1, q2, q3⟩ hg hr => ⟨Bx, q1, (blk_own (β := Unit) Bx _ _).from _ () X Y row q2 hg hr, q3⟩
 case assign =>
  rintro l' pre x V K ⟨hj, hy, hB⟩ hK;simp only [itmV];have hVs : W0.heap.size ≤ V.heap.size := hB.size;have HJ := Lib.hid hj;clear hj
  gi_wp2
  exact hK _ _ ((KeepsOthers.alloc _ _).from _) ((Below.refl _ V).alloc (by omega) _) ⟨hJ.alloc _ HJ.out, hy.alloc _, hB.alloc (by omega) _⟩ ⟨V.heap.size, by omega, heap_alloc_new V _, rfl⟩
 case body =>
  rintro l' pre x a' V hl ⟨r, hr⟩ ⟨hj, hy, hB⟩ ⟨Bx, hBx, bX, rfl⟩ hlen;have hVs : W0.heap.size ≤ V.heap.size := hB.size;obtain ⟨⟨xn, xo, xv⟩, hx⟩ := x;dsimp only at bX;have cx0 := blk_cell (j := 0) bX rfl;have cx1 := blk_cell (j := 1) bX rfl;have cx2 := blk_cell (j := 2) bX rfl;have cy := hy.cell;obtain ⟨fn, tmps, assign, body, hy', hR⟩ := yield_inRound l' (yield_depth (m' := 5) (HY.out pre ⟨(xn, xo, xv), hx⟩ V hj hlen));dsimp only [itmV] at hy';have hwV : W.heap.size ≤ V.heap.size := by omega
  clear hj
  gi_wp2
  refine hR.mono ?_;rintro e W3 (⟨rfl, hJ3, hb3, hk3⟩ | ⟨rfl, hJx3, hk3⟩)
  ·
   have HJ3 := Lib.hid hJ3;have y3 : Boxed W3 W.heap.size 87 (.func (.yield l) #[] #[]) := hk3.same _ _ (Nat.le_refl _) hy (fun c fz e => by cases e);have k3 := hk3.mono (Nat.le_trans (Nat.le_add_right _ 2) (Nat.le_of_eq hsz.symm));have HK3 := Lib.hid k3;clear hJ3 hR hk3
   gi_wp2
   exact ⟨HK3.out.from, hb3, HJ3.out, y3, hB.trans hb3⟩
  ·
   have HJ3 := Lib.hid hJx3;have k3 := hk3.mono (Nat.le_trans (Nat.le_add_right _ 2) (Nat.le_of_eq hsz.symm));have HK3 := Lib.hid k3;clear hJx3 hR hk3
   gi_wp2
   exact ⟨HK3.out.from, rfl, HJ3.out⟩
 case done =>
  rintro D ys V hD rfl ⟨hj, hy, hB⟩ hK;have HJ := Lib.hid hj;clear hj
  gi_wp2
  refine ⟨by simp, .inl ⟨_, _, rfl, run_takeDeferred hK, ?_⟩⟩;exact ⟨_, results_none rfl _ _ _, ⟨_, rfl⟩, .inl ⟨_, rfl, hJ.putObj _ HJ.out (by omega) hK rfl⟩⟩
 case stop =>
  rintro D c pre V hD hpre ⟨rfl, hj⟩ hK;have HJ := Lib.hid hj;clear hj
  gi_wp2
  refine ⟨by simp, .inl ⟨_, _, rfl, run_takeDeferred hK, ?_⟩⟩;exact ⟨_, results_none rfl _ _ _, ⟨_, rfl⟩, .inr ⟨_, hpre, hJx.putObj _ HJ.out (by omega) hK rfl⟩⟩
end Go.Proofs.YthdoniefjmphaaaGreatDoor
/- words.Quote: a text between two signs. -/
namespace Go.Proofs.YthdoniefjmphaaaGreatDoor
open Go Go.Proofs Go.RowKit Go.Shelf Go.Lib
set_option maxRecDepth 100000
def quoR (l : List UInt8) : List UInt8 := 34 :: escR l ++ [34]
set_option maxHeartbeats 4000000 in
theorem quote_at (s : ByteArray) (l : List UInt8) (hud : s.data.toList = l) (hl : l.length ≤ 100000) (w : World) :
  Calls Tryz.prog 43 #[.string s] w fun e w' => e = .returned (.string ⟨(quoR l).toArray⟩) ∧ Below w.heap.size w w' := by
 obtain ⟨i0, hi, hz0, hz1, hz2⟩ := info_parts info_u8;have HI := Lib.hid hi;have HZ := Lib.hid hz0;have HZ1 := Lib.hid hz1;have HZ2 := Lib.hid hz2;have hsz : s.size = l.length := by rw [Lib.size_eq, hud]
 have HU := Lib.hid hud;clear hi hz0 hz1 hz2 hud;have E0 : EW w w.heap.size (.slice (some ⟨w.heap.size, 0, none⟩) 1 1) [34] (w.alloc (.cells #[.int .u8 34] 5)) :=
  ⟨⟨rfl, .inr ⟨w.heap.size, 1, #[.int .u8 34], rfl, Nat.le_refl _, heap_alloc_new w _, Nat.le_refl _, by unfold maxLen; omega, rfl, rfl⟩⟩, below_cells _, (Lib.OthersKept.refl _ _ _).alloc _, by simp⟩
 have H := Lib.hid E0;clear E0;go_enter Tryz.func43, Tryz.ntmps43
 go_wp2
 go_loopw [3, 8] (fun v1 i wr => ∃ k : Nat, k ≤ l.length ∧ i = .int .i64 (k : Int) ∧ EW w w.heap.size v1 (34 :: escR (l.take k)) wr) (fun _ i _ => l.length - (RowKit.intOf i).toNat)
 case atStart => exact ⟨0, Nat.zero_le _, rfl, by simpa [escR] using H.out⟩
 case round =>
  obtain ⟨k, hk, rfl, hE⟩ := hrel;have E := Lib.hid hE;clear hE;by_cases hlt : k < l.length
  ·
   have hi : k < s.size := by omega
   obtain ⟨c, hc⟩ : ∃ c : UInt8, s[k]'hi = c := ⟨_, rfl⟩;have hcl : l[k]? = some c := by rw [← HU.out, ← hc]; exact Lib.data_getElem? s k hi
   have hsn : escR (l.take (k + 1)) = escR (l.take k) ++ escC c := by
    obtain ⟨hn, he⟩ := List.getElem?_eq_some_iff.1 hcl;rw [List.take_succ_eq_append_getElem hn, he, escR_snoc]
   have hlen := escR_len (l.take k);rw [List.length_take] at hlen;have h0 : (0 : Int) ≤ (k : Int) := by omega
   have h1 : (k : Int) < (l.length : Int) := by omega
   have h2 : (k : Int) < (s.size : Int) := by omega
   have SN := Lib.hid hsn;clear hsn hcl;obtain ⟨R, hR⟩ : ∃ R, escR (l.take k) = R := ⟨_, rfl⟩;rw [hR] at SN E hlen;clear hR;obtain ⟨T, hT⟩ : ∃ T, 34 :: R = T := ⟨_, rfl⟩;have hRl : T.length ≤ 300000 := by rw [← hT, List.length_cons]; omega
   rw [hT] at E;have TT := Lib.hid hT;clear hT;by_cases q : c.toNat = 34 ∨ c.toNat = 92
   ·
    have EC : Hid (escC c = [92, c]) := by unfold Hid escC; rw [if_pos q]
    rcases q with q | q
    ·
     obtain rfl : c = 34 := UInt8.toNat.inj q;go_wp2_with (at_builtin; refine wpList_append_own _ rfl (.tmp 21) (.tmp 22) 86 rfl w.heap.size 5 i0 (.int .u8 0) 1 1 Tryz.underlying86 HI.out HZ.out HZ1.out HZ2.out rfl (by decide) _ _ _ rfl (E.out.own.alloc _) _ 1 1 [.int .u8 92] rfl rfl ?pa1 ?pa2 ?pa3 ?pa4 ?pa5 ?_)
     case pa1 => intro j u hj; match j, hj with | 0, hj => simp at hj; subst hj; rw [Addr.add_lit]; simp
     case pa2 => intro u hu; simp at hu; subst hu; rfl
     case pa3 => unfold maxLen; omega
     case pa4 => omega
     case pa5 => have := E.out.ge; simp; omega
     intro vpa wpa hownpa hgrowpa _;have Fp := E.out.app (X := [92]) _ hownpa hgrowpa;clear hownpa hgrowpa;obtain ⟨T2, hT2⟩ : ∃ T2, T ++ [92] = T2 := ⟨_, rfl⟩;have hT2l : T2.length ≤ 300001 := by rw [← hT2, List.length_append]; simp only [List.length_cons, List.length_nil]; omega
     rw [hT2] at Fp;have TT2 := Lib.hid hT2;have Fp := Lib.hid Fp;clear hT2;go_wp2_with (at_builtin; refine wpList_append_own _ rfl (.tmp 24) (.tmp 28) 86 rfl w.heap.size 5 i0 (.int .u8 0) 1 1 Tryz.underlying86 HI.out HZ.out HZ1.out HZ2.out rfl (by decide) _ _ _ rfl (Fp.out.own.alloc _) _ 1 1 [.int .u8 34] rfl rfl ?pb1 ?pb2 ?pb3 ?pb4 ?pb5 ?_)
     case pb1 => intro j u hj; match j, hj with | 0, hj => simp at hj; subst hj; rw [Addr.add_lit]; simp
     case pb2 => intro u hu; simp at hu; subst hu; rfl
     case pb3 => unfold maxLen; omega
     case pb4 => omega
     case pb5 => have := Fp.out.ge; simp; omega
     intro vpb wpb hownpb hgrowpb _;have Gp := Lib.hid (Fp.out.app (X := [34]) _ hownpb hgrowpb);clear hownpb hgrowpb;go_wp2
     go_roundw
     case rel => exact ⟨k + 1, by omega, by go_num, by rw [SN.out, EC.out, ← List.cons_append, TT.out]; have := Gp.out; rw [← TT2.out, List.append_assoc] at this; exact this⟩
     case measure => simp [RowKit.intOf]; omega
    ·
     obtain rfl : c = 92 := UInt8.toNat.inj q;go_wp2_with (at_builtin; refine wpList_append_own _ rfl (.tmp 21) (.tmp 22) 86 rfl w.heap.size 5 i0 (.int .u8 0) 1 1 Tryz.underlying86 HI.out HZ.out HZ1.out HZ2.out rfl (by decide) _ _ _ rfl (E.out.own.alloc _) _ 1 1 [.int .u8 92] rfl rfl ?qa1 ?qa2 ?qa3 ?qa4 ?qa5 ?_)
     case qa1 => intro j u hj; match j, hj with | 0, hj => simp at hj; subst hj; rw [Addr.add_lit]; simp
     case qa2 => intro u hu; simp at hu; subst hu; rfl
     case qa3 => unfold maxLen; omega
     case qa4 => omega
     case qa5 => have := E.out.ge; simp; omega
     intro vqa wqa hownqa hgrowqa _;have Fq := E.out.app (X := [92]) _ hownqa hgrowqa;clear hownqa hgrowqa;obtain ⟨T2, hT2⟩ : ∃ T2, T ++ [92] = T2 := ⟨_, rfl⟩;have hT2l : T2.length ≤ 300001 := by rw [← hT2, List.length_append]; simp only [List.length_cons, List.length_nil]; omega
     rw [hT2] at Fq;have TT2 := Lib.hid hT2;have Fq := Lib.hid Fq;clear hT2;go_wp2_with (at_builtin; refine wpList_append_own _ rfl (.tmp 24) (.tmp 28) 86 rfl w.heap.size 5 i0 (.int .u8 0) 1 1 Tryz.underlying86 HI.out HZ.out HZ1.out HZ2.out rfl (by decide) _ _ _ rfl (Fq.out.own.alloc _) _ 1 1 [.int .u8 92] rfl rfl ?qb1 ?qb2 ?qb3 ?qb4 ?qb5 ?_)
     case qb1 => intro j u hj; match j, hj with | 0, hj => simp at hj; subst hj; rw [Addr.add_lit]; simp
     case qb2 => intro u hu; simp at hu; subst hu; rfl
     case qb3 => unfold maxLen; omega
     case qb4 => omega
     case qb5 => have := Fq.out.ge; simp; omega
     intro vqb wqb hownqb hgrowqb _;have Gq := Lib.hid (Fq.out.app (X := [92]) _ hownqb hgrowqb);clear hownqb hgrowqb;go_wp2
     go_roundw
     case rel => exact ⟨k + 1, by omega, by go_num, by rw [SN.out, EC.out, ← List.cons_append, TT.out]; have := Gq.out; rw [← TT2.out, List.append_assoc] at this; exact this⟩
     case measure => simp [RowKit.intOf]; omega
   ·
    have EC : Hid (escC c = [c]) := by unfold Hid escC; rw [if_neg q]
    have n1 : ((c.toNat : Int) == 34) = false := by rw [beq_eq_false_iff_ne]; omega
    have n2 : ((c.toNat : Int) == 92) = false := by rw [beq_eq_false_iff_ne]; omega
    go_wp2_with (at_builtin; refine wpList_append_own _ rfl (.tmp 24) (.tmp 28) 86 rfl w.heap.size 5 i0 (.int .u8 0) 1 1 Tryz.underlying86 HI.out HZ.out HZ1.out HZ2.out rfl (by decide) _ _ _ rfl (E.out.own.alloc _) _ 1 1 [.int .u8 (c.toNat : Int)] rfl rfl ?rb1 ?rb2 ?rb3 ?rb4 ?rb5 ?_)
    case rb1 => intro j u hj; match j, hj with | 0, hj => simp at hj; subst hj; rw [Addr.add_lit]; simp
    case rb2 => intro u hu; simp at hu; subst hu; rfl
    case rb3 => unfold maxLen; omega
    case rb4 => omega
    case rb5 => have := E.out.ge; simp; omega
    intro vrb wrb hownrb hgrowrb _;have Gr := Lib.hid (E.out.app (X := [c]) _ hownrb hgrowrb);clear hownrb hgrowrb;go_wp2
    go_roundw
    case rel => exact ⟨k + 1, by omega, by go_num, by rw [SN.out, EC.out, ← List.cons_append, TT.out]; have := Gr.out; simpa using this⟩
    case measure => simp [RowKit.intOf]; omega
  ·
   obtain rfl : k = l.length := by omega
   have h1 : ¬ (l.length : Int) < (s.size : Int) := by omega
   rw [List.take_length] at E;have hlen := escR_len l;obtain ⟨T, hT⟩ : ∃ T, 34 :: escR l = T := ⟨_, rfl⟩;rw [hT] at E;have hTl : T.length ≤ 300000 := by rw [← hT, List.length_cons]; omega
   have TT := Lib.hid hT;clear hT hlen;go_wp2_with (at_builtin; refine wpList_append_own _ rfl (.tmp 31) (.tmp 32) 86 rfl w.heap.size 5 i0 (.int .u8 0) 1 1 Tryz.underlying86 HI.out HZ.out HZ1.out HZ2.out rfl (by decide) _ _ _ rfl (E.out.own.alloc _) _ 1 1 [.int .u8 34] rfl rfl ?sa1 ?sa2 ?sa3 ?sa4 ?sa5 ?_)
   case sa2 => first | rfl | (intro u hu; simp at hu; subst hu; rfl)
   case sa3 => unfold maxLen; omega
   case sa4 => omega
   case sa5 => have := E.out.ge; simp; omega
   intro vs ws howns hgrows _;have Gs := E.out.app (X := [34]) _ howns hgrows;have hC := str_of_row (P := Tryz.prog) (src := 86) (dst := 9) Gs.own Tryz.underlying86 Tryz.underlying5 Tryz.underlying9;have hB := Gs.bel;clear howns hgrows Gs;go_wp2
   go_ret
   exact ⟨by rw [← TT.out]; rfl, hB⟩
theorem quote_any (l : List UInt8) (hl : l.length ≤ 100000) (w : World) :
  Calls Tryz.prog 43 #[.string ⟨l.toArray⟩] w fun e w' => e = .returned (.string ⟨(quoR l).toArray⟩) ∧ Below w.heap.size w w' := quote_at ⟨l.toArray⟩ l rfl hl w
end Go.Proofs.YthdoniefjmphaaaGreatDoor
/- braces.Text of any iterator of items; match.Text. -/
namespace Go.Proofs.YthdoniefjmphaaaGreatDoor
open Go Go.Proofs Go.RowKit Go.Shelf
set_option maxRecDepth 100000
attribute [local go_sem] Oper.semAt_some
theorem quo_len (l : List UInt8) : (quoR l).length ≤ 2 * l.length + 2 := by
 have := escR_len l;unfold quoR;simp only [List.length_append, List.length_cons, List.length_nil];omega
def itT (x : Itm) : List UInt8 := x.1 ++ x.2.1 ++ quoR x.2.2
def iStep (s : List UInt8 × List UInt8) (x : SItm) : List UInt8 × List UInt8 := (s.1 ++ s.2 ++ itT x.1, [44])
def runI (pre : List SItm) : List UInt8 × List UInt8 := pre.foldl iStep ([123], [])
theorem runI_snoc (pre : List SItm) (x : SItm) : runI (pre ++ [x]) = ((runI pre).1 ++ (runI pre).2 ++ itT x.1, [44]) := by
 unfold runI; rw [List.foldl_append]; rfl
theorem itT_len (x : SItm) : (itT x.1).length ≤ 4002 := by
 unfold itT;have h := quo_len x.1.2.2;have h0 := x.2;unfold ShortI at h0;simp only [List.length_append];omega
theorem runI_len (pre : List SItm) : (runI pre).1.length ≤ 1 + 4003 * pre.length ∧ (runI pre).2.length ≤ 1 := by
 have g : ∀ (l : List SItm) (s : List UInt8 × List UInt8), s.2.length ≤ 1 → (l.foldl iStep s).1.length ≤ s.1.length + 4003 * l.length ∧ (l.foldl iStep s).2.length ≤ 1 := by
  intro l;induction l with
  | nil => intro s h2; exact ⟨by simp, h2⟩
  | cons x t ih =>
   intro s h2;rw [List.foldl_cons];obtain ⟨a, b⟩ := ih (iStep s x) (by unfold iStep; simp);have hl := itT_len x;have e : (iStep s x).1.length ≤ s.1.length + 4003 := by unfold iStep; simp only [List.length_append]; omega
   rw [List.length_cons];exact ⟨by omega, b⟩
 have := g pre ([123], []) (by simp);simpa [runI] using this
theorem runI_pos (pre : List SItm) : 1 ≤ (runI pre).1.length := by
 have g : ∀ (l : List SItm) (s : List UInt8 × List UInt8), s.1.length ≤ (l.foldl iStep s).1.length := by
  intro l;induction l with
  | nil => intro s; exact Nat.le_refl _
  | cons x t ih =>
   intro s;rw [List.foldl_cons];exact Nat.le_trans (by unfold iStep; simp only [List.length_append]; omega) (ih (iStep s x))
 exact g pre ([123], [])
structure PT (w W0 : World) (Bw : Nat) (W : World) (vb v : Value) (S ah : List UInt8) (Bx : Nat) (cs : Array Value) : Prop where
 bt : Boxed W (w.heap.size + 1) 86 vb
 ba : Boxed W (w.heap.size + 1 + 1) 9 (.string ⟨ah.toArray⟩)
 bx : Blk W Bx cs 70
 own : W.ownsRow w.heap.size 5 1 v S.length (Lib.byteCells S)
 bel : Below w.heap.size w W
 bel0 : Below w.heap.size W0 W
 ko : KeepsT 5 Bw W0 W
theorem PT.grow {w W0 W W1 : World} {Bw : Nat} {vb v v' : Value} {S S' ah : List UInt8} {Bx n' : Nat} {cs : Array Value} (h : PT w W0 Bw W vb v S ah Bx cs) (g : W.grownBy W1 v.ownBlock) (own : W1.ownsRow w.heap.size 5 1 v' n' (Lib.byteCells S')) (hn : n' = S'.length) : PT w W0 Bw W1 vb v' S' ah Bx cs := by
 subst hn;have hk : ∀ i, v.ownBlock = some i → w.heap.size ≤ i := by
  intro i e;rcases h.own.2 with ⟨rfl, _⟩ | ⟨gg, cap, cur, rfl, hb, hgb, _⟩
  ·
   simp [Value.ownBlock] at e
  ·
   obtain rfl : gg = i := by simpa [Value.ownBlock] using e
   exact hb
 refine ⟨h.bt.kept g (h.bt.not_row (by decide) h.own), h.ba.kept g (h.ba.not_row (by decide) h.own), heap_grow h.own g (by decide) h.bx, own, h.bel.grown g h.bel.size hk, h.bel0.grown g (by have := h.bt.lt; omega) hk, h.ko.trans (KeepsT.grown g (fun r e => ?_))⟩;rcases h.own.2 with ⟨rfl, _⟩ | ⟨gg, cap, cur, rfl, _, hgb, _⟩
 ·
  simp [Value.ownBlock] at e
 ·
  obtain rfl : gg = r := by simpa [Value.ownBlock] using e
  exact ⟨_, _, hgb⟩
theorem PT.alloc {w W0 W : World} {Bw : Nat} {vb v : Value} {S ah : List UInt8} {Bx : Nat} {cs : Array Value} (h : PT w W0 Bw W vb v S ah Bx cs) (o : Obj) : PT w W0 Bw (W.alloc o) vb v S ah Bx cs :=
 ⟨h.bt.alloc o, h.ba.alloc o, (Below.heap_alloc W o Bx (Array.getElem?_eq_some_iff.1 h.bx).1).trans h.bx, h.own.alloc o, h.bel.alloc h.bel.size o, h.bel0.alloc (by have := h.bt.lt; omega) o, h.ko.trans (KeepsT.alloc _ _ _ _)⟩


theorem PT.store {w W0 W : World} {Bw : Nat} {vb v : Value} {S ah : List UInt8} {Bx : Nat} {cs : Array Value} (h : PT w W0 Bw W vb v S ah Bx cs) (hB : w.heap.size + 1 + 1 < Bx) (hBw : w.heap.size + 1 < Bw) : PT w W0 Bw (W.setCell ⟨w.heap.size + 1, 0, none⟩ v) v v S ah Bx cs :=
 ⟨h.bt.set v, h.ba.other (by omega) _, by rw [Blk, Below.heap_setCell _ _ _ _ (by show Bx ≠ w.heap.size + 1; omega)]; exact h.bx, ownsRow_setCell_other h.own (h.bt.not_row (by decide) h.own).symm _, h.bel.setCell (by simp) _, h.bel0.setCell (by simp) _, h.ko.trans (KeepsT.setCell _ hBw)⟩
theorem PT.below {w W0 W W1 : World} {Bw : Nat} {vb v : Value} {S ah : List UInt8} {Bx : Nat} {cs : Array Value} (h : PT w W0 Bw W vb v S ah Bx cs) (hb : Below W.heap.size W W1) : PT w W0 Bw W1 vb v S ah Bx cs :=
 ⟨boxed_below h.bt hb, boxed_below h.ba hb, blk_below h.bx hb, h.own.kept (grown_below hb) (by cases v.ownBlock <;> simp), h.bel.trans (hb.mono h.bel.size), h.bel0.trans (hb.mono (by have := h.bt.lt; omega)), h.ko.trans (KeepsT.below hb)⟩
set_option maxHeartbeats 4000000 in
theorem btext_any (gf : Nat) (lb : Array Value) (zs : List SItm) (hreach : zs.length ≤ 100) (w : World) (eg : ∀ args w, (callFunc gf args).run Tryz.prog w = .ok (.enter gf args) w)
  (hseq : SeqStopsJ 5 Fence.wide 8 Tryz.prog gf lb (fun x : SItm => #[itmV x.1]) w.heap.size (fun ys => ys = zs) (fun pre => pre <+: zs) zs.length w) :
  Calls Tryz.prog 27 #[.func (.func gf) #[] lb] w fun e w' => e = .returned (.string ⟨((runI zs).1 ++ [125]).toArray⟩) ∧ Below w.heap.size w w' := by
 refine (callsIn_wide (n := 9)).1 ?_;refine callsIn_of_wp_marks Tryz.func27 rfl trivial ?_ rfl;simp only [Tryz.ntmps27, List.size_toArray, List.length_cons, List.length_nil, Nat.reduceAdd, Nat.reduceSub, Array.replicate_succ, Array.replicate_zero, List.push_toArray, List.append_toArray, List.nil_append, List.cons_append]
 gi_wp2
 obtain ⟨i0, hi, hz0, hz1, hz2⟩ := info_parts info_u8;have HI := Lib.hid hi;have HZ := Lib.hid hz0;have HZ1 := Lib.hid hz1;have HZ2 := Lib.hid hz2;clear hi hz0 hz1 hz2;obtain ⟨W0, hW0⟩ : ∃ W0, (((w.alloc (.cells #[.int .u8 123] 5)).alloc (.cells #[.slice (some ⟨w.heap.size, 0, none⟩) 1 1] 86)).alloc (.cells #[.string ⟨#[]⟩] 9)) = W0 := ⟨_, rfl⟩;have hlp : Below w.heap.size w W0 := by rw [← hW0]; go_grown
 have hsz : W0.heap.size = w.heap.size + 3 := by rw [← hW0]; simp
 have bt0 : Boxed W0 (w.heap.size + 1) 86 (.slice (some ⟨w.heap.size, 0, none⟩) 1 1) := by
  rw [← hW0];have h := Boxed.new (w.alloc (.cells #[.int .u8 123] 5)) 86 (.slice (some ⟨w.heap.size, 0, none⟩) 1 1);rw [World.size_alloc] at h;exact h.alloc _
 have ba0 : Boxed W0 (w.heap.size + 1 + 1) 9 (.string ⟨#[]⟩) := by
  rw [← hW0];have h := Boxed.new ((w.alloc (.cells #[.int .u8 123] 5)).alloc (.cells #[.slice (some ⟨w.heap.size, 0, none⟩) 1 1] 86)) 9 (.string ⟨#[]⟩);rw [World.size_alloc, World.size_alloc] at h;exact h
 have ow0 : W0.ownsRow w.heap.size 5 1 (.slice (some ⟨w.heap.size, 0, none⟩) 1 1) 1 (Lib.byteCells [123]) := by
  have h : (w.alloc (.cells #[.int .u8 123] 5)).ownsRow w.heap.size 5 1 (.slice (some ⟨w.heap.size, 0, none⟩) 1 1) 1 (Lib.byteCells [123]) :=
   ⟨rfl, .inr ⟨w.heap.size, 1, #[.int .u8 123], rfl, Nat.le_refl _, heap_alloc_new w _, Nat.le_refl _, by unfold maxLen; omega, rfl, rfl⟩⟩
  rw [← hW0];exact (h.alloc _).alloc _
 rw [hW0];clear hW0;refine rangeJ 5 (F := Fence.wide) (n := 9) rfl (by omega) (gf := gf) (lb := lb) rfl trivial eg (n₀ := w.heap.size) hseq (by omega) hlp (fun _ => rfl)
  (fun pre W => (∃ v, Boxed W (w.heap.size + 1) 86 v ∧ W.ownsRow w.heap.size 5 1 v (runI pre).1.length (Lib.byteCells (runI pre).1) ∧ True) ∧ Boxed W (w.heap.size + 1 + 1) 9 (.string ⟨(runI pre).2.toArray⟩) ∧ Below w.heap.size w W)
  (fun _ _ _ => False)
  (OwnFrom.and (Own.from (holdsRow_own w.heap.size (w.heap.size + 1) 86 5 1 (fun pre => (runI pre).1.length) (fun pre => Lib.byteCells (runI pre).1) (fun _ _ => True)) _) (OwnFrom.and (Own.from (boxed_own (w.heap.size + 1 + 1) 9 (fun pre => .string ⟨(runI pre).2.toArray⟩)) _) (ownFrom_below (Nat.le_refl _) (by rw [hsz]; omega))))
  (fun _ _ _ _ _ hs _ _ => hs)
  ⟨⟨_, bt0, ow0, trivial⟩, ba0, hlp⟩
  (fun x a' W => ∃ Bx, w.heap.size + 1 + 1 < Bx ∧ Blk W Bx #[.string ⟨x.1.1.toArray⟩, .string ⟨x.1.2.1.toArray⟩, .string ⟨x.1.2.2.toArray⟩] 70 ∧ a' = { tmps := #[.func (.func gf) #[] lb, undef, .string ⟨#[]⟩, .pointer (some ⟨w.heap.size + 1, 0, none⟩), .pointer (some ⟨w.heap.size + 1 + 1, 0, none⟩), .pointer (some ⟨Bx, 0, none⟩), .slice (some ⟨w.heap.size, 0, none⟩) 1 1, .func (.func gf) #[] lb, .agg #[.string ⟨x.1.1.toArray⟩, .string ⟨x.1.2.1.toArray⟩, .string ⟨x.1.2.2.toArray⟩], undef, undef, undef, undef, undef, undef, undef, undef, undef, undef, undef, undef, undef, undef, undef, undef, undef], defers := [] })
  (fun x a' => ?ax) ?assign ?body ?done ?stop
 case ax => exact fun s X Y row ⟨Bx, q1, q2, q3⟩ hg hr => ⟨Bx, q1, (blk_own (β := Unit) Bx _ _).from _ () X Y row q2 hg hr, q3⟩
 case assign =>
  rintro l pre x W K ⟨⟨v, hv, hrow, _⟩, hleft, hB⟩ hK;simp only [itmV];have hWs : w.heap.size + 1 + 1 < W.heap.size := hleft.lt
  gi_wp2
  exact hK _ _ (KeepsT.alloc _ _ _ _) ((Below.refl _ W).alloc (by omega) _) ⟨⟨v, hv.alloc _, hrow.alloc _, trivial⟩, hleft.alloc _, below_new hB _⟩ ⟨W.heap.size, hWs, heap_alloc_new W _, rfl⟩
 case body =>
  rintro l pre x a' W hl ⟨r, hr⟩ ⟨⟨v, hv, hrow, _⟩, hleft, hB⟩ ⟨Bx, hBx, bX, rfl⟩ hlen;have hWs : w.heap.size + 1 + 1 < W.heap.size := hleft.lt;have hx2 := x.2;unfold ShortI at hx2;have hSN := runI_snoc pre x;obtain ⟨m1, m2⟩ := runI_len pre;have hpl : pre.length ≤ 100 := by omega
  have hSl : (runI pre).1.length ≤ 400301 := by omega
  have hS1 := runI_pos pre;generalize (runI pre).1 = S at *;generalize (runI pre).2 = ah at *;obtain ⟨⟨xn, xo, xv⟩, hx⟩ := x;dsimp only at hx2 bX hSN ⊢;obtain ⟨n1, n2, n3⟩ := hx2;have SN := Lib.hid hSN;have P0 : PT w W W0.heap.size W.drew v v S ah Bx _ := ⟨hv, hleft, bX, hrow, hB.drew, (Below.refl _ _).drew, ⟨Nat.le_refl _, fun _ _ _ h _ => h⟩⟩;have H0 := Lib.hid P0;have hS0 : W.drew.cell? ⟨w.heap.size + 1, 0, none⟩ = some v ∧ W.drew.cell? ⟨w.heap.size + 1 + 1, 0, none⟩ = some (.string ⟨ah.toArray⟩) ∧ W.drew.cell? ⟨Bx, 0, none⟩ = some (.string ⟨xn.toArray⟩) ∧ W.drew.cell? ⟨Bx, 1, none⟩ = some (.string ⟨xo.toArray⟩) ∧ W.drew.cell? ⟨Bx, 2, none⟩ = some (.string ⟨xv.toArray⟩) :=
   ⟨P0.bt.cell, P0.ba.cell, blk_cell P0.bx rfl, blk_cell P0.bx rfl, blk_cell P0.bx rfl⟩
  have HQ := Lib.hid (fun W => quote_any xv (by omega) W);have hql := quo_len xv;clear hSN P0 hv hleft bX hrow hB m1;have hah : ah.length ≤ 1 := m2;generalize hqx : quoR xv = qx at *;have g1 : ah.length + xn.length ≤ 9223372036854775807 := by omega
  have g2 : ah.length + xn.length + xo.length ≤ 9223372036854775807 := by omega
  have g3 : ah.length + xn.length + xo.length + qx.length ≤ 9223372036854775807 := by omega
  have g4 : ¬ 9223372036854775807 < ah.length + xn.length := by omega
  have g5 : ¬ 9223372036854775807 < ah.length + xn.length + xo.length := by omega
  have g6 : ¬ 9223372036854775807 < ah.length + xn.length + xo.length + qx.length := by omega
  have es : ((⟨ah.toArray⟩ : ByteArray) ++ ⟨xn.toArray⟩ ++ ⟨xo.toArray⟩ ++ ⟨qx.toArray⟩) = ⟨(ah ++ xn ++ xo ++ qx).toArray⟩ := by rw [bapp ah xn, bapp (ah ++ xn) xo, bapp (ah ++ xn ++ xo) qx]
  have el : ((⟨ah.toArray⟩ : ByteArray) ++ ⟨xn.toArray⟩ ++ ⟨xo.toArray⟩ ++ ⟨qx.toArray⟩).size = ah.length + xn.length + xo.length + qx.length := by
   rw [es];show (ah ++ xn ++ xo ++ qx).toArray.size = _;simp only [List.size_toArray, List.length_append]
  have ES := Lib.hid es;have EL := Lib.hid el;have QX := Lib.hid hqx;clear es el hqx
  gi_wp2
  refine region_anyM (S := fun u => u.cell? ⟨w.heap.size + 1, 0, none⟩ = some v ∧ u.cell? ⟨w.heap.size + 1 + 1, 0, none⟩ = some (.string ⟨ah.toArray⟩) ∧ u.cell? ⟨Bx, 0, none⟩ = some (.string ⟨xn.toArray⟩) ∧ u.cell? ⟨Bx, 1, none⟩ = some (.string ⟨xo.toArray⟩) ∧ u.cell? ⟨Bx, 2, none⟩ = some (.string ⟨xv.toArray⟩)) 12 (by kernel_rfl) (fun hS => ?_) hS0;refine anyM_d 0 [0, 12] hS ?_;refine anyM_d 1 [1, 4, 7, 11, 12] hS ?_;refine anyM_d 2 [2, 3, 4, 7, 11, 12] hS ?_;refine anyM_d 3 [3, 4, 7, 11, 12] hS ?_;refine anyM_d 4 [4, 7, 11, 12] hS ?_;refine anyM_d 5 [5, 6, 7, 11, 12] hS ?_;refine anyM_d 6 [6, 7, 11, 12] hS ?_;refine anyM_d 7 [7, 11, 12] hS ?_;refine anyM_d 8 [8, 9, 10, 11, 12] hS ?_;refine anyM_d 9 [9, 10, 11, 12] hS ?_;refine anyM_o 10 (fun K hK => ?_);go_simp
  refine ⟨trivial, ?_⟩
  gi_at_call 43
  refine (CallsIn.inRound l (callsIn_wide.2 (HQ.out _))).mono ?_;rintro e w2 ⟨rfl, hb2⟩;have P2 := H0.out.below hb2;have hS2 : w2.cell? ⟨w.heap.size + 1, 0, none⟩ = some v ∧ w2.cell? ⟨w.heap.size + 1 + 1, 0, none⟩ = some (.string ⟨ah.toArray⟩) ∧ w2.cell? ⟨Bx, 0, none⟩ = some (.string ⟨xn.toArray⟩) ∧ w2.cell? ⟨Bx, 1, none⟩ = some (.string ⟨xo.toArray⟩) ∧ w2.cell? ⟨Bx, 2, none⟩ = some (.string ⟨xv.toArray⟩) :=
   ⟨P2.bt.cell, P2.ba.cell, blk_cell P2.bx rfl, blk_cell P2.bx rfl, blk_cell P2.bx rfl⟩
  have H2 := Lib.hid P2;clear hb2 HQ H0 hS hS0 P2;go_simp
  refine hK _ _ hS2 ?_;clear hK K;refine anyM_d 11 [11, 12] hS2 ?_;refine anyM_l (fun K hK => ?_);obtain ⟨v1, w3, hr, own1, g1', _⟩ := Lib.run_append_own_string (P := Tryz.prog) w2 w.heap.size 86 9 86 5 i0 Tryz.underlying86 Tryz.underlying9 HI.out HZ.out HZ1.out HZ2.out v S.length _ H2.out.own _ (by rw [EL.out]; unfold maxLen; omega) (by rw [EL.out]; omega) H2.out.bel.size;refine oper_append_string (.tmp 9) (.tmp 20) 86 9 rfl rfl rfl hr ?_;refine hK _ _ ?_;clear hK K hr hS2;rw [ES.out, strCells_mk] at own1;have own1 : w3.ownsRow w.heap.size 5 1 v1 (S.length + (ah.length + xn.length + xo.length + qx.length)) (Lib.byteCells (S ++ (ah ++ xn ++ xo ++ qx))) := by
   rw [bcells_app];have e : (⟨(ah ++ xn ++ xo ++ qx).toArray⟩ : ByteArray).size = ah.length + xn.length + xo.length + qx.length := by rw [← ES.out]; exact EL.out
   rw [e] at own1;exact own1
  obtain ⟨gg1, cap1, rfl⟩ := own_some own1 (by omega);have P3 := H2.out.grow g1' own1 (by simp only [List.length_append]);have P4 := P3.store hBx (by omega);have b3 := P3.bt.cell;have b4 := P3.bt.frozen;have d3 := P4.ba.cell;have d4 := P4.ba.frozen;have H4 := Lib.hid P4;clear P3 P4 own1 g1' H2;refine anyI_o 13 (fun K hK => ?_);go_simp
  refine hK _ _ ?_;clear hK K;refine anyIn_done (by kernel_rfl) ?_ _
  gi_wp2
  have HP := H4.out;refine ⟨HP.ko.trans (KeepsT.setCell _ (by omega)), HP.bel0.setCell (by show w.heap.size ≤ w.heap.size + 1 + 1; omega) _, ?_⟩;dsimp only;rw [SN.out];have e : S ++ ah ++ itT (xn, xo, xv) = S ++ (ah ++ xn ++ xo ++ qx) := by rw [← QX.out]; unfold itT; simp
  rw [e];exact ⟨⟨_, HP.bt.other (by omega) _, ownsRow_setCell_other (by simpa using HP.own) (HP.ba.not_row (by decide) HP.own).symm _, trivial⟩, HP.ba.set _, HP.bel.setCell (by show w.heap.size ≤ w.heap.size + 1 + 1; omega) _⟩
 case done =>
  rintro D ys W hD rfl ⟨⟨v, hv, hrow, _⟩, hleft, hB⟩ hK;have c3 := hv.cell;have f3 := hv.frozen;obtain ⟨m1, m2⟩ := runI_len ys;obtain ⟨S, hS⟩ : ∃ S, (runI ys).1 = S := ⟨_, rfl⟩;rw [hS] at hrow m1;have HS := Lib.hid hS;clear hS;have hbs : w.heap.size ≤ W.heap.size := hB.size;have H0 := Lib.hid hrow;have HB := Lib.hid hB;have HK := Lib.hid hK;clear hrow hB hK
  gi_wp2_with (gi_at_builtin; refine wpListIn_append_own _ rfl (.tmp 22) (.tmp 23) 86 rfl w.heap.size 5 i0 (.int .u8 0) 1 1 Tryz.underlying86 HI.out HZ.out HZ1.out HZ2.out rfl (by decide) _ _ _ rfl (H0.out.alloc _) ⟨W.heap.size, 0, none⟩ 1 1 [.int .u8 125] rfl rfl (cell_one_new _ _ _) (by simp [Value.oneCell']) ?k1 ?k2 ?k3 ?_)
  case k1 => unfold maxLen; omega
  case k2 => omega
  case k3 => simp; omega
  intro v3 w3 own3 g3' _;have own3 : w3.ownsRow w.heap.size 5 1 v3 (S.length + 1) (Lib.byteCells (S ++ [125])) := by rw [bcells_app]; exact own3
  have hr := row_at (H0.out.alloc (.cells #[.int .u8 125] 5));have ko : KeepsOthers W w3 := (KeepsOthers.alloc _ _).trans (KeepsOthers.of_grownBy g3' fun j o ej hj => by
   obtain ⟨_, c, fz, hc⟩ := hr j ej;rw [hc] at hj; cases hj; rfl)
  have hK3 := ko.same D _ HK.out rfl;have hB3 : Below w.heap.size w w3 := (HB.out.alloc hbs _).grown g3' (by simp; omega) (fun i e => (hr i e).1);have hC := fun ty => str_of_row (P := Tryz.prog) (src := 86) (dst := ty) own3 Tryz.underlying86 Tryz.underlying5
  have hC := hC 9 Tryz.underlying9;have B3 := Lib.hid hB3;have K3 := Lib.hid hK3;clear own3 g3' hr ko hK3 hB3 H0 c3 f3 hv
  gi_wp2
  refine ⟨by simp, .inl ⟨_, _, rfl, run_takeDeferred K3.out, ?_⟩⟩;exact ⟨_, results_tmp rfl _ _ _, by rw [HS.out]; rfl, B3.out.trans (belowK_b (w := w) (Nat.le_refl _) w3 D _ _ (by rw [hsz] at hD; omega) K3.out rfl rfl)⟩
 case stop =>
  rintro D c pre W _ _ h _;exact h.elim
theorem mitems_any (a : Option Addr) (len cap : Nat) (w : World) :
  Calls Tryz.prog 28 #[.slice a len cap] w fun e w' => e = .returned (.func (.func 44) #[] #[.pointer (some ⟨w.heap.size, 0, none⟩)]) ∧ w' = w.alloc (.cells #[.slice a len cap] 22) := by
 go_enter Tryz.func28, Tryz.ntmps28
 go_wp2
 go_ret
 exact ⟨rfl, rfl⟩
def textM (zs : List SItm) : List UInt8 := (runI zs).1 ++ [125]
set_option maxHeartbeats 1000000 in
theorem mtext_any (sv : Value) (zs : List SItm) (hreach : zs.length ≤ 100) (w : World) (hI : MtL w.heap.size w sv zs) :
  Calls Tryz.prog 12 #[sv] w fun e w' => e = .returned (.string ⟨(textM zs).toArray⟩) ∧ Below w.heap.size w w' := by
 obtain ⟨a, cap, rfl⟩ := hI.slice;have hb := below_cells (w := w) (.cells #[.slice a zs.length cap] 22);have D := At.new w #[.slice a zs.length cap] 22;have HC := Lib.hid (btext_any 44 #[.pointer (some ⟨w.heap.size, 0, none⟩)] zs hreach (w.alloc (.cells #[.slice a zs.length cap] 22)) (enters_of Tryz.func44 (by kernel_rfl) rfl) (mitems_stops w.heap.size _ _ zs (by omega) _ (Nat.le_refl _) (by simp) (D.cell 0 _ rfl) (hI.on hb)));have HB := Lib.hid hb;clear hI hb D;go_enter Tryz.func12, Tryz.ntmps12
 go_wp2_with fail
 refine (mitems_any a zs.length cap w).mono ?_;rintro e w1 ⟨rfl, rfl⟩;go_wp2_with fail
 refine HC.out.mono ?_;rintro e w2 ⟨rfl, hb⟩;go_wp2
 go_ret
 exact ⟨rfl, below_then HB.out hb⟩
end Go.Proofs.YthdoniefjmphaaaGreatDoor
