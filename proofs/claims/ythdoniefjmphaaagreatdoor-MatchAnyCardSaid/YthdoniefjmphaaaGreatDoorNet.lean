/- math/bits.TrailingZeros64; its table. -/
import Derived.Test.YthdoniefjmphaaaGreatDoorProg
import Derived.Test.YthdoniefjmphaaaGreatDoorAt
import Derived.Shelf.Abstract
import Derived.WalkKit
import Derived.Tactics
import Derived.Tactics2
import Derived.Handy
import Derived.KernelRfl
import Derived.WalkSpells
import Derived.Lib.Hide
import Derived.Laws.Bits64b
import Derived.Lib.TrailingZeros
import Derived.WalkLawsBesides
import Derived.Test.YthdoniefjmphaaaGreatDoorPars
import Derived.Test.YthdoniefjmphaaaGreatDoorOr
import Derived.RangeFuncNested
import Derived.RangeFuncBound
import Derived.RangeFuncCalls
import Derived.RangeFuncLeaves
import Derived.RangeFuncBox
import Derived.Shelf.RegionOpen
import Derived.OwnWalkIn
import Derived.TacticsInMore
import Derived.LoopNIn
import Derived.LoopIn
import Derived.Laws.OwnMore
import Derived.Deep.AppendLies
namespace Go.Proofs.YthdoniefjmphaaaGreatDoor
open Go Go.Proofs Go.RowKit Go.Shelf
set_option maxRecDepth 100000
structure Tab (w : World) : Prop where
 lt : 3 < w.heap.size
 cell : ∀ j, j < 64 → w.cell? ⟨3, j, none⟩ = some (.int .u8 ((Lib.deBruijn64tab.getD j 0 : Nat) : Int))
theorem Tab.of_block {w w' : World} (h : Tab w) (hs : w.heap.size ≤ w'.heap.size) (hb : w'.heap[3]? = w.heap[3]?) : Tab w' :=
 ⟨Nat.lt_of_lt_of_le h.lt hs, fun j hj => (World.cell?_of_block (a := ⟨3, j, none⟩) hb).trans (h.cell j hj)⟩
theorem Tab.below {w w' : World} (h : Tab w) (hb : Below w.heap.size w w') : Tab w' := h.of_block hb.size (hb.block _ h.lt)
theorem Tab.alloc {w : World} (h : Tab w) (o : Obj) : Tab (w.alloc o) := h.below ((Below.refl _ _).alloc (Nat.le_refl _) o)
theorem tz_key (x a : Nat) (hx : x < 18446744073709551616) (hlow : x &&& (18446744073709551616 - x) = a) (h0 : x ≠ 0) :
  IntKind.u64.wrap (bits BinOp.and IntKind.u64 (x : Int) (IntKind.u64.wrap (-(x : Int))) * 285870213051353865) / 288230376151711744 = ((a * 285870213051353865 % 18446744073709551616 / 288230376151711744 : Nat) : Int) := by
 have e1 : IntKind.u64.wrap (-(x : Int)) = ((18446744073709551616 - x : Nat) : Int) := by rw [IntKind.wrap_u64]; omega
 rw [e1, bits_and_u64_nat x _ hx (by omega), hlow, IntKind.wrap_u64];omega
theorem tz_core (x k idx : Nat) (w : World) (hx0 : ((x : Int) == 0) = false)
  (key : IntKind.u64.wrap (bits BinOp.and IntKind.u64 (x : Int) (IntKind.u64.wrap (-(x : Int))) * 285870213051353865) / 288230376151711744 = (idx : Int))
  (hi : idx < 64) (hk : k < 64) (hcell : w.cell? ⟨3, idx, none⟩ = some (.int .u8 (k : Int))) :
  Calls Tryz.prog 122 #[.int .u64 (x : Int)] w fun e w' => e = .returned (.int .i64 (k : Int)) ∧ w = w' := by
 go_enter Tryz.func122, Tryz.ntmps122
 go_wp2_with (simp only [key])
 go_ret
 exact ⟨rfl, rfl⟩
theorem tz_any (x : Nat) (hx : x < 18446744073709551616) (h0 : x ≠ 0) (w : World) (hT : Tab w) :
  Calls Tryz.prog 122 #[.int .u64 (x : Int)] w fun e w' => e = .returned (.int .i64 ((Lib.ctz 64 x : Nat) : Int)) ∧ w = w' := by
 obtain ⟨hlow, hk⟩ := Lib.lowest_bit 64 x h0 hx;obtain ⟨hi, htab⟩ := Lib.deBruijn64_at _ hk;have hcell := hT.cell _ hi;rw [htab] at hcell;exact tz_core x _ _ w (by rw [beq_eq_false_iff_ne]; omega) (tz_key x _ hx hlow h0) hi hk hcell
end Go.Proofs.YthdoniefjmphaaaGreatDoor
/- regex: all of a set's states, rising: the iterator's contract. -/
namespace Go.Proofs.YthdoniefjmphaaaGreatDoor
open Go Go.Proofs Go.RowKit Go.Shelf
set_option maxRecDepth 100000
attribute [local go_sem] Oper.semAt_some
abbrev El (m : Nat) := { x : Nat // x < 256 ∧ m.testBit x = true }
structure KB (W W' : World) : Prop where
 size : W.heap.size ≤ W'.heap.size
 same : W'.heap[3]? = W.heap[3]?
theorem KB.trans {A B C : World} (h : KB A B) (k : KB B C) : KB A C := ⟨Nat.le_trans h.size k.size, k.same.trans h.same⟩
theorem KB.tab {A B : World} (h : KB A B) (t : Tab A) : Tab B := t.of_block h.size h.same
def tailB (m : Nat) : Nat → List Nat
 | 0 => Rx.bl 64 0 (wordN m 0) ++ (Rx.bl 64 64 (wordN m 1) ++ (Rx.bl 64 128 (wordN m 2) ++ Rx.bl 64 192 (wordN m 3)))
 | 1 => Rx.bl 64 64 (wordN m 1) ++ (Rx.bl 64 128 (wordN m 2) ++ Rx.bl 64 192 (wordN m 3))
 | 2 => Rx.bl 64 128 (wordN m 2) ++ Rx.bl 64 192 (wordN m 3)
 | 3 => Rx.bl 64 192 (wordN m 3)
 | _ => []
theorem tailB_succ (m k : Nat) (hk : k < 4) : tailB m k = Rx.bl 64 (64 * k) (wordN m k) ++ tailB m (k + 1) := by
 have hc : k = 0 ∨ k = 1 ∨ k = 2 ∨ k = 3 := by omega
 rcases hc with rfl | rfl | rfl | rfl
 ·
  rfl
 ·
  rfl
 ·
  rfl
 ·
  exact (List.append_nil _).symm
theorem elems_tail (m : Nat) : Rx.elems m = tailB m 0 := by
 have w0 : Rx.bl 64 0 (wordN m 0) = Rx.bl 64 0 m := by unfold wordN; rw [Rx.bl_mod]; simp
 have w1 : Rx.bl 64 64 (wordN m 1) = Rx.bl 64 64 (m / 2 ^ 64) := by unfold wordN; rw [Rx.bl_mod]
 have w2 : Rx.bl 64 128 (wordN m 2) = Rx.bl 64 128 (m / 2 ^ 64 / 2 ^ 64) := by unfold wordN; rw [Rx.bl_mod, Nat.div_div_eq_div_mul]
 have w3 : Rx.bl 64 192 (wordN m 3) = Rx.bl 64 192 (m / 2 ^ 64 / 2 ^ 64 / 2 ^ 64) := by unfold wordN; rw [Rx.bl_mod, Nat.div_div_eq_div_mul, Nat.div_div_eq_div_mul]
 show Rx.bl 256 0 m = Rx.bl 64 0 (wordN m 0) ++ (Rx.bl 64 64 (wordN m 1) ++ (Rx.bl 64 128 (wordN m 2) ++ Rx.bl 64 192 (wordN m 3)));rw [w0, w1, w2, w3, show 256 = 64 + (64 + (64 + 64)) from rfl, Rx.bl_add, Rx.bl_add 64 (64 + 64), Rx.bl_add 64 64]
theorem wrap_u8 (n : Int) (h0 : 0 ≤ n) (h : n < 256) : IntKind.u8.wrap n = n := by
 have : IntKind.u8.wrap n = n % 256 := by simp [IntKind.wrap, IntKind.signed, IntKind.bits]
 rw [this]; omega
theorem and_pred (x : Nat) (h0 : 0 < x) (h : x < 18446744073709551616) : bits BinOp.and IntKind.u64 (x : Int) ((x : Int) - 1) = ((x &&& (x - 1) : Nat) : Int) := by
 have := bits_and_u64_nat x (x - 1) h (by omega)
 rwa [show ((x - 1 : Nat) : Int) = (x : Int) - 1 from by omega] at this
theorem yields {m : Nat} {R : Ending → World → Prop} {l : Nat} {W : World} {v : Value} {x : El m} (hv : v = .int .u8 (x.1 : Int)) (h : YieldAt Fence.wide 7 Tryz.prog l #[.int .u8 (x.1 : Int)] W R) : YieldAt Fence.wide 7 Tryz.prog l #[v] W R := by rw [hv]; exact h
def IsK (k : Nat) (i : Value) : Prop := (k = 0 ∧ i = .int .i64 0) ∨ (k = 1 ∧ i = .int .i64 1) ∨ (k = 2 ∧ i = .int .i64 2) ∨ (k = 3 ∧ i = .int .i64 3) ∨ (k = 4 ∧ i = .int .i64 4)
set_option maxHeartbeats 4000000 in
theorem all1_in (l Bs m : Nat) (J Jx : List (El m) → World → Prop)
  (hY : ∀ pre x W, J pre W → pre.length < (Rx.elems m).length → YieldAt Fence.wide 7 Tryz.prog l #[.int .u8 (x.1 : Int)] W fun e W' =>
   (e = .returned (.bool true) ∧ J (pre ++ [x]) W' ∧ KB W W') ∨ (e = .returned (.bool false) ∧ Jx (pre ++ [x]) W'))
  (W : World) (h0c : W.cell? ⟨Bs, 0, none⟩ = some (.int .u64 (word m 0))) (h1c : W.cell? ⟨Bs, 1, none⟩ = some (.int .u64 (word m 1))) (h2c : W.cell? ⟨Bs, 2, none⟩ = some (.int .u64 (word m 2))) (h3c : W.cell? ⟨Bs, 3, none⟩ = some (.int .u64 (word m 3))) (hT : Tab W) (h0 : J [] W) :
  CallsIn Fence.wide 8 Tryz.prog 121 #[.func (.yield l) #[] #[], .pointer (some ⟨Bs, 0, none⟩)] W fun e W' => (∃ v, e = .returned v) ∧
   ((∃ ys : List (El m), ys.map Subtype.val = Rx.elems m ∧ J ys W') ∨ (∃ pre : List (El m), pre.map Subtype.val <+: Rx.elems m ∧ Jx pre W')) := by
 refine callsIn_of_wp Tryz.func121 rfl trivial ?_ rfl;simp only [Tryz.ntmps121, List.size_toArray, List.length_cons, List.length_nil, Nat.reduceAdd, Nat.reduceSub, Array.replicate_succ, Array.replicate_zero, List.push_toArray, List.append_toArray, List.nil_append, List.cons_append];have HE := Lib.hid (elems_tail m);have HH := Lib.hid hY;have H0 := Lib.hid h0;clear hY h0
 gi_wp2
 gi_loopw [3, 4, 6] (fun _ _ i wr => ∃ (k : Nat) (pre : List (El m)), IsK k i ∧ pre.map Subtype.val ++ tailB m k = Rx.elems m ∧ J pre wr ∧ Tab wr) (fun _ _ i _ => 4 - (intOf i).toNat)
 case atStart => exact ⟨0, [], .inl ⟨rfl, rfl⟩, HE.out.symm, H0.out, hT⟩
 case round =>
  obtain ⟨k, pre, hk, hE, hJ, hT1⟩ := hrel;have HJ := Lib.hid hJ;have hE1 := Lib.hid hE;clear h0c h1c h2c h3c hT H0 HE hE hJ;rcases hk with ⟨rfl, rfl⟩ | ⟨rfl, rfl⟩ | ⟨rfl, rfl⟩ | ⟨rfl, rfl⟩ | ⟨rfl, rfl⟩
  ·
   have hst : pre.map Subtype.val ++ (Rx.bl 64 0 (wordN m 0) ++ tailB m 1) = Rx.elems m := by rw [← hE1.out, tailB_succ m 0 (by omega)]
   have HS := Lib.hid hst;have hwl := wordN_lt m 0;clear hst hE1;have ix : ∀ w, (Instr.index 104 (.agg #[.int .u64 (word m 0), .int .u64 (word m 1), .int .u64 (word m 2), .int .u64 (word m 3)]) (.int .i64 0)).run Tryz.prog w = .ok (.int .u64 (word m 0)) w := fun _ => by kernel_rfl
   obtain ⟨wo, rfl⟩ : ∃ wo : World, wo = wr := ⟨_, rfl⟩
   gi_wp2
   gi_loopw [4] (fun xv wr => ∃ (x : Nat) (pre : List (El m)), xv = .int .u64 (x : Int) ∧ x < 18446744073709551616 ∧ pre.map Subtype.val ++ (Rx.bl 64 0 x ++ tailB m 1) = Rx.elems m ∧ J pre wr ∧ Tab wr) (fun xv _ => (intOf xv).toNat)
   case atStart => exact ⟨wordN m 0, pre, rfl, hwl, HS.out, HJ.out, hT1⟩
   case round =>
    clear HS HJ hT1 hwl pre;obtain ⟨x, pre, rfl, hx, hE, hJ, hT1⟩ := hrel;by_cases h0 : x = 0
    ·
     have hd : pre.map Subtype.val ++ tailB m 1 = Rx.elems m := by rw [← hE, h0, Rx.bl_zero]; rfl
     have HD := Lib.hid hd;have hn : ((x : Int) != 0) = false := by rw [h0]; rfl
     clear hE hd h0
     gi_wp2
     go_roundw
     case rel => exact ⟨1, pre, .inr (.inl ⟨rfl, rfl⟩), HD.out, hJ, hT1⟩
     case measure => simp [intOf]
    ·
     have hst := Rx.bl_step 64 0 x (by omega) hx;have ec : Lib.ctzFrom 64 x = Lib.ctz 64 x := by unfold Lib.ctz; rw [if_neg h0]
     have hcl := (Lib.lowest_bit 64 x h0 hx).2;rw [ec] at hst;have hmem : 0 + Lib.ctz 64 x ∈ Rx.elems m := by rw [← hE, hst]; simp
     have HTz := Lib.hid (tz_any x hx h0 wr hT1);have hap := and_pred x (by omega) hx;have hE2 : (pre.map Subtype.val ++ [0 + Lib.ctz 64 x]) ++ (Rx.bl 64 0 (x &&& (x - 1)) ++ tailB m 1) = Rx.elems m := by rw [← hE, hst]; simp
     have hlt2 : x &&& (x - 1) < x := by
      have := Nat.and_le_right (n := x) (m := x - 1);omega
     have hpl : pre.length < (Rx.elems m).length := by rw [← hE2]; simp
     have hn : ((x : Int) != 0) = true := by rw [bne_iff_ne]; omega
     have hx1 : 0 < x := by omega
     clear hE hst ec h0;generalize Lib.ctz 64 x = c at *;obtain ⟨q, hq⟩ : ∃ q : El m, q.1 = 0 + c := ⟨⟨0 + c, Rx.elems_mem.1 hmem⟩, rfl⟩;have hw : IntKind.u8.wrap (0 + (c : Int)) = ((0 + c : Nat) : Int) := by rw [wrap_u8 _ (by omega) (by omega)]; simp
     have hY1 := HH.out pre q wr hJ hpl;have HY1 := Lib.hid hY1;have HE2 := Lib.hid hE2;have HAP := Lib.hid hap;have HW := Lib.hid hw;have HQ := Lib.hid hq;clear hY1 hE2 hap hw hmem hq
     gi_wp2
     refine ⟨trivial, (callsIn_wide.2 HTz.out).mono ?_⟩;rintro e w2 ⟨rfl, rfl⟩;obtain ⟨fn, tmps, assign, body, hy, hR⟩ := yields (v := .int .u8 ((c : Int))) (by rw [HQ.out]; simp) HY1.out;clear HTz HY1
     gi_wp2
     refine hR.mono ?_;rintro e W3 (⟨rfl, hJ3, hk3⟩ | ⟨rfl, hJx3⟩)
     ·
      have hT3 := hk3.tab hT1;have HJ3 := Lib.hid hJ3;have HL := Lib.hid hlt2;clear hR hJ3 hJ hk3 hT1 hy hlt2;have hap := HAP.out
      gi_wp2
      go_roundw
      case rel => exact ⟨x &&& (x - 1), pre ++ [q], rfl, Nat.lt_trans HL.out hx, by rw [List.map_append, List.map_cons, List.map_nil, HQ.out]; exact HE2.out, HJ3.out, hT3⟩
      case measure => simp [intOf]; exact HL.out
     ·
      have HJ3 := Lib.hid hJx3;clear hR hJx3 hJ hy
      gi_wp2
      refine bodyPost_ret (results_none rfl _ _ _) rfl ?_;exact ⟨⟨_, rfl⟩, .inr ⟨pre ++ [q], by rw [List.map_append, List.map_cons, List.map_nil, HQ.out, ← HE2.out]; exact List.prefix_append _ _, HJ3.out⟩⟩
  ·
   have hst : pre.map Subtype.val ++ (Rx.bl 64 64 (wordN m 1) ++ tailB m 2) = Rx.elems m := by rw [← hE1.out, tailB_succ m 1 (by omega)]
   have HS := Lib.hid hst;have hwl := wordN_lt m 1;clear hst hE1;have ix : ∀ w, (Instr.index 104 (.agg #[.int .u64 (word m 0), .int .u64 (word m 1), .int .u64 (word m 2), .int .u64 (word m 3)]) (.int .i64 1)).run Tryz.prog w = .ok (.int .u64 (word m 1)) w := fun _ => by kernel_rfl
   obtain ⟨wo, rfl⟩ : ∃ wo : World, wo = wr := ⟨_, rfl⟩
   gi_wp2
   gi_loopw [4] (fun xv wr => ∃ (x : Nat) (pre : List (El m)), xv = .int .u64 (x : Int) ∧ x < 18446744073709551616 ∧ pre.map Subtype.val ++ (Rx.bl 64 64 x ++ tailB m 2) = Rx.elems m ∧ J pre wr ∧ Tab wr) (fun xv _ => (intOf xv).toNat)
   case atStart => exact ⟨wordN m 1, pre, rfl, hwl, HS.out, HJ.out, hT1⟩
   case round =>
    clear HS HJ hT1 hwl pre;obtain ⟨x, pre, rfl, hx, hE, hJ, hT1⟩ := hrel;by_cases h0 : x = 0
    ·
     have hd : pre.map Subtype.val ++ tailB m 2 = Rx.elems m := by rw [← hE, h0, Rx.bl_zero]; rfl
     have HD := Lib.hid hd;have hn : ((x : Int) != 0) = false := by rw [h0]; rfl
     clear hE hd h0
     gi_wp2
     go_roundw
     case rel => exact ⟨2, pre, .inr (.inr (.inl ⟨rfl, rfl⟩)), HD.out, hJ, hT1⟩
     case measure => simp [intOf]
    ·
     have hst := Rx.bl_step 64 64 x (by omega) hx;have ec : Lib.ctzFrom 64 x = Lib.ctz 64 x := by unfold Lib.ctz; rw [if_neg h0]
     have hcl := (Lib.lowest_bit 64 x h0 hx).2;rw [ec] at hst;have hmem : 64 + Lib.ctz 64 x ∈ Rx.elems m := by rw [← hE, hst]; simp
     have HTz := Lib.hid (tz_any x hx h0 wr hT1);have hap := and_pred x (by omega) hx;have hE2 : (pre.map Subtype.val ++ [64 + Lib.ctz 64 x]) ++ (Rx.bl 64 64 (x &&& (x - 1)) ++ tailB m 2) = Rx.elems m := by rw [← hE, hst]; simp
     have hlt2 : x &&& (x - 1) < x := by
      have := Nat.and_le_right (n := x) (m := x - 1);omega
     have hpl : pre.length < (Rx.elems m).length := by rw [← hE2]; simp
     have hn : ((x : Int) != 0) = true := by rw [bne_iff_ne]; omega
     have hx1 : 0 < x := by omega
     clear hE hst ec h0;generalize Lib.ctz 64 x = c at *;obtain ⟨q, hq⟩ : ∃ q : El m, q.1 = 64 + c := ⟨⟨64 + c, Rx.elems_mem.1 hmem⟩, rfl⟩;have hw : IntKind.u8.wrap (64 + (c : Int)) = ((64 + c : Nat) : Int) := by rw [wrap_u8 _ (by omega) (by omega)]; simp
     have hY1 := HH.out pre q wr hJ hpl;have HY1 := Lib.hid hY1;have HE2 := Lib.hid hE2;have HAP := Lib.hid hap;have HW := Lib.hid hw;have HQ := Lib.hid hq;clear hY1 hE2 hap hw hmem hq
     gi_wp2
     refine ⟨trivial, (callsIn_wide.2 HTz.out).mono ?_⟩;rintro e w2 ⟨rfl, rfl⟩;obtain ⟨fn, tmps, assign, body, hy, hR⟩ := yields (v := .int .u8 (64 + (c : Int))) (by rw [HQ.out]; simp) HY1.out;clear HTz HY1
     gi_wp2
     refine hR.mono ?_;rintro e W3 (⟨rfl, hJ3, hk3⟩ | ⟨rfl, hJx3⟩)
     ·
      have hT3 := hk3.tab hT1;have HJ3 := Lib.hid hJ3;have HL := Lib.hid hlt2;clear hR hJ3 hJ hk3 hT1 hy hlt2;have hap := HAP.out
      gi_wp2
      go_roundw
      case rel => exact ⟨x &&& (x - 1), pre ++ [q], rfl, Nat.lt_trans HL.out hx, by rw [List.map_append, List.map_cons, List.map_nil, HQ.out]; exact HE2.out, HJ3.out, hT3⟩
      case measure => simp [intOf]; exact HL.out
     ·
      have HJ3 := Lib.hid hJx3;clear hR hJx3 hJ hy
      gi_wp2
      refine bodyPost_ret (results_none rfl _ _ _) rfl ?_;exact ⟨⟨_, rfl⟩, .inr ⟨pre ++ [q], by rw [List.map_append, List.map_cons, List.map_nil, HQ.out, ← HE2.out]; exact List.prefix_append _ _, HJ3.out⟩⟩
  ·
   have hst : pre.map Subtype.val ++ (Rx.bl 64 128 (wordN m 2) ++ tailB m 3) = Rx.elems m := by rw [← hE1.out, tailB_succ m 2 (by omega)]
   have HS := Lib.hid hst;have hwl := wordN_lt m 2;clear hst hE1;have ix : ∀ w, (Instr.index 104 (.agg #[.int .u64 (word m 0), .int .u64 (word m 1), .int .u64 (word m 2), .int .u64 (word m 3)]) (.int .i64 2)).run Tryz.prog w = .ok (.int .u64 (word m 2)) w := fun _ => by kernel_rfl
   obtain ⟨wo, rfl⟩ : ∃ wo : World, wo = wr := ⟨_, rfl⟩
   gi_wp2
   gi_loopw [4] (fun xv wr => ∃ (x : Nat) (pre : List (El m)), xv = .int .u64 (x : Int) ∧ x < 18446744073709551616 ∧ pre.map Subtype.val ++ (Rx.bl 64 128 x ++ tailB m 3) = Rx.elems m ∧ J pre wr ∧ Tab wr) (fun xv _ => (intOf xv).toNat)
   case atStart => exact ⟨wordN m 2, pre, rfl, hwl, HS.out, HJ.out, hT1⟩
   case round =>
    clear HS HJ hT1 hwl pre;obtain ⟨x, pre, rfl, hx, hE, hJ, hT1⟩ := hrel;by_cases h0 : x = 0
    ·
     have hd : pre.map Subtype.val ++ tailB m 3 = Rx.elems m := by rw [← hE, h0, Rx.bl_zero]; rfl
     have HD := Lib.hid hd;have hn : ((x : Int) != 0) = false := by rw [h0]; rfl
     clear hE hd h0
     gi_wp2
     go_roundw
     case rel => exact ⟨3, pre, .inr (.inr (.inr (.inl ⟨rfl, rfl⟩))), HD.out, hJ, hT1⟩
     case measure => simp [intOf]
    ·
     have hst := Rx.bl_step 64 128 x (by omega) hx;have ec : Lib.ctzFrom 64 x = Lib.ctz 64 x := by unfold Lib.ctz; rw [if_neg h0]
     have hcl := (Lib.lowest_bit 64 x h0 hx).2;rw [ec] at hst;have hmem : 128 + Lib.ctz 64 x ∈ Rx.elems m := by rw [← hE, hst]; simp
     have HTz := Lib.hid (tz_any x hx h0 wr hT1);have hap := and_pred x (by omega) hx;have hE2 : (pre.map Subtype.val ++ [128 + Lib.ctz 64 x]) ++ (Rx.bl 64 128 (x &&& (x - 1)) ++ tailB m 3) = Rx.elems m := by rw [← hE, hst]; simp
     have hlt2 : x &&& (x - 1) < x := by
      have := Nat.and_le_right (n := x) (m := x - 1);omega
     have hpl : pre.length < (Rx.elems m).length := by rw [← hE2]; simp
     have hn : ((x : Int) != 0) = true := by rw [bne_iff_ne]; omega
     have hx1 : 0 < x := by omega
     clear hE hst ec h0;generalize Lib.ctz 64 x = c at *;obtain ⟨q, hq⟩ : ∃ q : El m, q.1 = 128 + c := ⟨⟨128 + c, Rx.elems_mem.1 hmem⟩, rfl⟩;have hw : IntKind.u8.wrap (128 + (c : Int)) = ((128 + c : Nat) : Int) := by rw [wrap_u8 _ (by omega) (by omega)]; simp
     have hY1 := HH.out pre q wr hJ hpl;have HY1 := Lib.hid hY1;have HE2 := Lib.hid hE2;have HAP := Lib.hid hap;have HW := Lib.hid hw;have HQ := Lib.hid hq;clear hY1 hE2 hap hw hmem hq
     gi_wp2
     refine ⟨trivial, (callsIn_wide.2 HTz.out).mono ?_⟩;rintro e w2 ⟨rfl, rfl⟩;obtain ⟨fn, tmps, assign, body, hy, hR⟩ := yields (v := .int .u8 (128 + (c : Int))) (by rw [HQ.out]; simp) HY1.out;clear HTz HY1
     gi_wp2
     refine hR.mono ?_;rintro e W3 (⟨rfl, hJ3, hk3⟩ | ⟨rfl, hJx3⟩)
     ·
      have hT3 := hk3.tab hT1;have HJ3 := Lib.hid hJ3;have HL := Lib.hid hlt2;clear hR hJ3 hJ hk3 hT1 hy hlt2;have hap := HAP.out
      gi_wp2
      go_roundw
      case rel => exact ⟨x &&& (x - 1), pre ++ [q], rfl, Nat.lt_trans HL.out hx, by rw [List.map_append, List.map_cons, List.map_nil, HQ.out]; exact HE2.out, HJ3.out, hT3⟩
      case measure => simp [intOf]; exact HL.out
     ·
      have HJ3 := Lib.hid hJx3;clear hR hJx3 hJ hy
      gi_wp2
      refine bodyPost_ret (results_none rfl _ _ _) rfl ?_;exact ⟨⟨_, rfl⟩, .inr ⟨pre ++ [q], by rw [List.map_append, List.map_cons, List.map_nil, HQ.out, ← HE2.out]; exact List.prefix_append _ _, HJ3.out⟩⟩
  ·
   have hst : pre.map Subtype.val ++ (Rx.bl 64 192 (wordN m 3) ++ tailB m 4) = Rx.elems m := by rw [← hE1.out, tailB_succ m 3 (by omega)]
   have HS := Lib.hid hst;have hwl := wordN_lt m 3;clear hst hE1;have ix : ∀ w, (Instr.index 104 (.agg #[.int .u64 (word m 0), .int .u64 (word m 1), .int .u64 (word m 2), .int .u64 (word m 3)]) (.int .i64 3)).run Tryz.prog w = .ok (.int .u64 (word m 3)) w := fun _ => by kernel_rfl
   obtain ⟨wo, rfl⟩ : ∃ wo : World, wo = wr := ⟨_, rfl⟩
   gi_wp2
   gi_loopw [4] (fun xv wr => ∃ (x : Nat) (pre : List (El m)), xv = .int .u64 (x : Int) ∧ x < 18446744073709551616 ∧ pre.map Subtype.val ++ (Rx.bl 64 192 x ++ tailB m 4) = Rx.elems m ∧ J pre wr ∧ Tab wr) (fun xv _ => (intOf xv).toNat)
   case atStart => exact ⟨wordN m 3, pre, rfl, hwl, HS.out, HJ.out, hT1⟩
   case round =>
    clear HS HJ hT1 hwl pre;obtain ⟨x, pre, rfl, hx, hE, hJ, hT1⟩ := hrel;by_cases h0 : x = 0
    ·
     have hd : pre.map Subtype.val ++ tailB m 4 = Rx.elems m := by rw [← hE, h0, Rx.bl_zero]; rfl
     have HD := Lib.hid hd;have hn : ((x : Int) != 0) = false := by rw [h0]; rfl
     clear hE hd h0
     gi_wp2
     go_roundw
     case rel => exact ⟨4, pre, .inr (.inr (.inr (.inr (⟨rfl, rfl⟩)))), HD.out, hJ, hT1⟩
     case measure => simp [intOf]
    ·
     have hst := Rx.bl_step 64 192 x (by omega) hx;have ec : Lib.ctzFrom 64 x = Lib.ctz 64 x := by unfold Lib.ctz; rw [if_neg h0]
     have hcl := (Lib.lowest_bit 64 x h0 hx).2;rw [ec] at hst;have hmem : 192 + Lib.ctz 64 x ∈ Rx.elems m := by rw [← hE, hst]; simp
     have HTz := Lib.hid (tz_any x hx h0 wr hT1);have hap := and_pred x (by omega) hx;have hE2 : (pre.map Subtype.val ++ [192 + Lib.ctz 64 x]) ++ (Rx.bl 64 192 (x &&& (x - 1)) ++ tailB m 4) = Rx.elems m := by rw [← hE, hst]; simp
     have hlt2 : x &&& (x - 1) < x := by
      have := Nat.and_le_right (n := x) (m := x - 1);omega
     have hpl : pre.length < (Rx.elems m).length := by rw [← hE2]; simp
     have hn : ((x : Int) != 0) = true := by rw [bne_iff_ne]; omega
     have hx1 : 0 < x := by omega
     clear hE hst ec h0;generalize Lib.ctz 64 x = c at *;obtain ⟨q, hq⟩ : ∃ q : El m, q.1 = 192 + c := ⟨⟨192 + c, Rx.elems_mem.1 hmem⟩, rfl⟩;have hw : IntKind.u8.wrap (192 + (c : Int)) = ((192 + c : Nat) : Int) := by rw [wrap_u8 _ (by omega) (by omega)]; simp
     have hY1 := HH.out pre q wr hJ hpl;have HY1 := Lib.hid hY1;have HE2 := Lib.hid hE2;have HAP := Lib.hid hap;have HW := Lib.hid hw;have HQ := Lib.hid hq;clear hY1 hE2 hap hw hmem hq
     gi_wp2
     refine ⟨trivial, (callsIn_wide.2 HTz.out).mono ?_⟩;rintro e w2 ⟨rfl, rfl⟩;obtain ⟨fn, tmps, assign, body, hy, hR⟩ := yields (v := .int .u8 (192 + (c : Int))) (by rw [HQ.out]; simp) HY1.out;clear HTz HY1
     gi_wp2
     refine hR.mono ?_;rintro e W3 (⟨rfl, hJ3, hk3⟩ | ⟨rfl, hJx3⟩)
     ·
      have hT3 := hk3.tab hT1;have HJ3 := Lib.hid hJ3;have HL := Lib.hid hlt2;clear hR hJ3 hJ hk3 hT1 hy hlt2;have hap := HAP.out
      gi_wp2
      go_roundw
      case rel => exact ⟨x &&& (x - 1), pre ++ [q], rfl, Nat.lt_trans HL.out hx, by rw [List.map_append, List.map_cons, List.map_nil, HQ.out]; exact HE2.out, HJ3.out, hT3⟩
      case measure => simp [intOf]; exact HL.out
     ·
      have HJ3 := Lib.hid hJx3;clear hR hJx3 hJ hy
      gi_wp2
      refine bodyPost_ret (results_none rfl _ _ _) rfl ?_;exact ⟨⟨_, rfl⟩, .inr ⟨pre ++ [q], by rw [List.map_append, List.map_cons, List.map_nil, HQ.out, ← HE2.out]; exact List.prefix_append _ _, HJ3.out⟩⟩
  ·
   have hfin : pre.map Subtype.val = Rx.elems m := by rw [← hE1.out]; exact (List.append_nil _).symm
   have HF := Lib.hid hfin;clear hfin hE1
   gi_wp2
   go_end0
   exact ⟨⟨_, rfl⟩, .inl ⟨_, HF.out, HJ.out⟩⟩
end Go.Proofs.YthdoniefjmphaaaGreatDoor
/- A net in memory: its nodes' cells; what of it is kept. -/
namespace Go.Proofs.YthdoniefjmphaaaGreatDoor
open Go Go.Proofs Go.RowKit Go.Shelf
set_option maxRecDepth 100000
def wordsV (m : Nat) : List Value := [.int .u64 (word m 0), .int .u64 (word m 1), .int .u64 (word m 2), .int .u64 (word m 3)]
def nodeV (e : Nat × Nat) : List Value := wordsV e.1 ++ wordsV e.2
def cellsN : Rx.Nt → List Value
 | [] => []
 | e :: t => nodeV e ++ cellsN t
theorem nodeV_length (e : Nat × Nat) : (nodeV e).length = 8 := rfl
theorem cellsN_length (n : Rx.Nt) : (cellsN n).length = n.length * 8 := by
 induction n with
 | nil => rfl
 | cons e t ih => rw [cellsN, List.length_append, ih, nodeV_length, List.length_cons]; omega
theorem cellsN_append (a b : Rx.Nt) : cellsN (a ++ b) = cellsN a ++ cellsN b := by
 induction a with
 | nil => rfl
 | cons e t ih => rw [List.cons_append, cellsN, cellsN, ih, List.append_assoc]
theorem cellsN_get (n : Rx.Nt) (i j : Nat) (hj : j < 8) (e : Nat × Nat) (h : n[i]? = some e) : (cellsN n)[i * 8 + j]? = (nodeV e)[j]? := by
 induction n generalizing i with
 | nil => cases h
 | cons d t ih =>
  cases i with
  | zero =>
   simp at h; subst h;rw [cellsN, List.getElem?_append_left (by rw [nodeV_length]; omega)]; simp
  | succ i =>
   rw [cellsN, List.getElem?_append_right (by rw [nodeV_length]; omega), nodeV_length, show (i + 1) * 8 + j - 8 = i * 8 + j from by omega];exact ih i (by simpa using h)
theorem cellsN_join (n : Rx.Nt) (next i : Nat) (e : Nat × Nat) (h : n[i]? = some e) :
  cellsN (Rx.joinS next n i) = ((((cellsN n).set (i * 8 + 4) (.int .u64 (word (e.2 ||| next) 0))).set (i * 8 + 4 + 1) (.int .u64 (word (e.2 ||| next) 1))).set (i * 8 + 4 + 2) (.int .u64 (word (e.2 ||| next) 2))).set (i * 8 + 4 + 3) (.int .u64 (word (e.2 ||| next) 3)) := by
 induction n generalizing i with
 | nil => cases h
 | cons d t ih =>
  cases i with
  | zero =>
   simp at h; subst h;rfl
  | succ i =>
   have h' : t[i]? = some e := by simpa using h
   have e1 : Rx.joinS next (d :: t) (i + 1) = d :: Rx.joinS next t i := rfl;rw [e1, cellsN, cellsN, ih i h'];have sw : ∀ (l : List Value) (k : Nat) (v : Value), (nodeV d ++ l).set ((i + 1) * 8 + 4 + k) v = nodeV d ++ l.set (i * 8 + 4 + k) v := by
    intro l k v;rw [List.set_append_right _ _ (by rw [nodeV_length]; omega), nodeV_length, show (i + 1) * 8 + 4 + k - 8 = i * 8 + 4 + k from by omega]
   have s0 := sw (cellsN t) 0 (.int .u64 (word (e.2 ||| next) 0));rw [Nat.add_zero, Nat.add_zero] at s0;rw [s0, sw, sw, sw]
structure NetR (base : Nat) (w : World) (v : Value) (n : Rx.Nt) : Prop where
 own : w.ownsRow base 106 8 v n.length (cellsN n)
 tab : Tab w
 nt : v.ownBlock ≠ some 3
 len : n.length ≤ 100
theorem ownsRow_same {w w' : World} {base n : Nat} {e : TypeId} {sz : Nat} {v : Value} {xs : List Value} (h : w.ownsRow base e sz v n xs) (hg : ∀ g, v.ownBlock = some g → w'.heap[g]? = w.heap[g]?) : w'.ownsRow base e sz v n xs := by
 refine ⟨h.1, ?_⟩;rcases h.2 with hn | ⟨g, cap, cur, rfl, hb, hgg, rest⟩
 ·
  exact .inl hn
 ·
  exact .inr ⟨g, cap, cur, rfl, hb, (hg g rfl).trans hgg, rest⟩
theorem NetR.same {base : Nat} {w w' : World} {v : Value} {n : Rx.Nt} (h : NetR base w v n) (hs : w.heap.size ≤ w'.heap.size) (hg : ∀ g, v.ownBlock = some g → w'.heap[g]? = w.heap[g]?) (h1 : w'.heap[3]? = w.heap[3]?) : NetR base w' v n :=
 ⟨ownsRow_same h.own hg, h.tab.of_block hs h1, h.nt, h.len⟩
theorem NetR.lt {base : Nat} {w : World} {v : Value} {n : Rx.Nt} (h : NetR base w v n) : ∀ g, v.ownBlock = some g → base ≤ g ∧ g < w.heap.size := h.own.lt
theorem NetR.below {base : Nat} {w w' : World} {v : Value} {n : Rx.Nt} (h : NetR base w v n) (hb : Below w.heap.size w w') : NetR base w' v n :=
 h.same hb.size (fun g e => hb.block g (h.lt g e).2) (hb.block _ h.tab.lt)
theorem NetR.alloc {base : Nat} {w : World} {v : Value} {n : Rx.Nt} (h : NetR base w v n) (o : Obj) : NetR base (w.alloc o) v n := h.below ((Below.refl _ _).alloc (Nat.le_refl _) o)
theorem NetR.form {base : Nat} {w : World} {v : Value} {n : Rx.Nt} (h : NetR base w v n) (hn : 0 < n.length) : ∃ g cap, v = .slice (some ⟨g, 0, none⟩) n.length cap ∧ base ≤ g ∧ g < w.heap.size := h.own.form hn
theorem grown_trans {w w1 w2 : World} {row : Option Nat} (h : w.grownBy w1 row) (k : w1.grownBy w2 row) : w.grownBy w2 row :=
 ⟨k.os.trans h.os, k.tape.trans h.tape, k.output.trans h.output, Nat.le_trans h.size k.size, fun i hi hr => (k.block i (Nat.lt_of_lt_of_le hi h.size) hr).trans (h.block i hi hr)⟩
theorem below_grown {w w1 : World} {row : Option Nat} (h : Below w.heap.size w w1) : w.grownBy w1 row := ⟨h.os, h.tape, h.output, h.size, fun i hi _ => h.block i hi⟩
theorem grown_at {w w1 : World} {row : Option Nat} {b : Nat} {l : List Value} (h : w.grownBy w1 row) (a : At w b l) (hne : row ≠ some b) : At w1 b l := by
 have hb := h.block b a.lt (fun e => hne e.symm);exact ⟨Nat.lt_of_lt_of_le a.lt h.size, fun j v hj => (World.cell?_of_block (a := ⟨b, j, none⟩) hb).trans (a.cell j v hj), fun j v hj => (World.frozen?_of_block (a := ⟨b, j, none⟩) hb).trans (a.free j v hj)⟩
theorem own_of_below {β : Type} {B : Nat} {I : β → World → Prop} (h : ∀ s W W', I s W → Below B W W' → I s W') (hs : ∀ s W, I s W → B ≤ W.heap.size) : OwnFrom B I :=
 fun s W W' row hI hg hr => h s W W' hI ⟨hg.os, hg.tape, hg.output, hg.size, fun k hk => hg.block k (Nat.lt_of_lt_of_le hk (hs s W hI)) (fun e => by have := (hr k e.symm).1; omega)⟩
theorem _root_.Go.World.ownsRow.cellAt' {w : World} {base n g cap m : Nat} {e : TypeId} {size : Nat} {xs : List Value} (h : w.ownsRow base e size (.slice (some ⟨g, 0, none⟩) n cap) m xs) {j : Nat} (hj : j < m * size) : w.cell? ⟨g, j, none⟩ = xs[j]? := by
 have hx := h.1;have := h.cells (g := g) rfl j xs[j] (List.getElem?_eq_getElem (by omega));rw [Addr.add_lit, Nat.zero_add] at this;rw [this, List.getElem?_eq_getElem (by omega)]
theorem _root_.Go.World.ownsRow.frozenAt' {w : World} {base n g cap m : Nat} {e : TypeId} {size : Nat} {xs : List Value} (h : w.ownsRow base e size (.slice (some ⟨g, 0, none⟩) n cap) m xs) (j : Nat) : w.frozen? ⟨g, j, none⟩ = false := by
 rcases h.2 with ⟨h', _⟩ | ⟨g', cap', cur, h', _, hg, _⟩
 ·
  cases h'
 ·
  cases h'
  exact frozen_of_row w g j cur e hg
theorem all_stops (m Bs : Nat) (w : World) (hBs : At w Bs (wordsV m)) (hT : Tab w) :
  SeqStopsK Fence.wide 8 Tryz.prog 121 #[.pointer (some ⟨Bs, 0, none⟩)] (fun x : El m => #[.int .u8 (x.1 : Int)]) KB (fun ys => ys.map Subtype.val = Rx.elems m) (fun pre => pre.map Subtype.val <+: Rx.elems m) (Rx.elems m).length w := fun l J Jx W hW _ _ hY h0 => by
 have hA := hBs.below hW;exact all1_in l Bs m J Jx hY W (hA.cell 0 _ rfl) (hA.cell 1 _ rfl) (hA.cell 2 _ rfl) (hA.cell 3 _ rfl) (hT.below hW) h0
theorem all_in (m : Nat) (w : World) :
  CallsIn Fence.wide 8 Tryz.prog 110 #[setV m] w fun e w' => e = .returned (.func (.func 121) #[] #[.pointer (some ⟨w.heap.size, 0, none⟩)]) ∧ w' = w.alloc (.cells #[.int .u64 (word m 0), .int .u64 (word m 1), .int .u64 (word m 2), .int .u64 (word m 3)] 104) := by
 refine callsIn_of_wp Tryz.func110 rfl trivial ?_ rfl;unfold setV;simp only [Tryz.ntmps110, List.size_toArray, List.length_cons, List.length_nil, Nat.reduceAdd, Nat.reduceSub, Array.replicate_succ, Array.replicate_zero, List.push_toArray, List.append_toArray, List.nil_append, List.cons_append]
 gi_wp2
 go_ret
 exact ⟨rfl, rfl⟩
end Go.Proofs.YthdoniefjmphaaaGreatDoor
