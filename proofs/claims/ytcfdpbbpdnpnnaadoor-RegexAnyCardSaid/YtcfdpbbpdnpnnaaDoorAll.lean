/- regex: all of a set's states, rising: the iterator's contract. -/
import Derived.Test.YtcfdpbbpdnpnnaaDoorPars
import Derived.Test.YtcfdpbbpdnpnnaaDoorSet
import Derived.Test.YtcfdpbbpdnpnnaaDoorTz
import Derived.RangeFuncNested
import Derived.RangeFuncBound
import Derived.RangeFuncCalls
import Derived.RangeFuncLeaves
import Derived.RangeFuncBox
import Derived.Shelf.RegionOpen
import Derived.OwnWalkIn
import Derived.TacticsInMore
import Derived.LoopNIn
import Derived.LoopIn
namespace Go.Proofs.YtcfdpbbpdnpnnaaDoor
open Go Go.Proofs Go.RowKit Go.Shelf
set_option maxRecDepth 100000
attribute [local go_sem] Oper.semAt_some
/-- an element of a set -/
abbrev El (m : Nat) := { x : Nat // x < 256 ∧ m.testBit x = true }
/-- what a round keeps: the table -/
structure KB (W W' : World) : Prop where
 size : W.heap.size ≤ W'.heap.size
 same : W'.heap[1]? = W.heap[1]?
theorem KB.trans {A B C : World} (h : KB A B) (k : KB B C) : KB A C := ⟨Nat.le_trans h.size k.size, k.same.trans h.same⟩
theorem KB.tab {A B : World} (h : KB A B) (t : Tab A) : Tab B := t.of_block h.size h.same
/-- the bits of the words from the k-th on -/
def tailB (m : Nat) : Nat → List Nat
 | 0 => Rx.bl 64 0 (wordN m 0) ++ (Rx.bl 64 64 (wordN m 1) ++ (Rx.bl 64 128 (wordN m 2) ++ Rx.bl 64 192 (wordN m 3)))
 | 1 => Rx.bl 64 64 (wordN m 1) ++ (Rx.bl 64 128 (wordN m 2) ++ Rx.bl 64 192 (wordN m 3))
 | 2 => Rx.bl 64 128 (wordN m 2) ++ Rx.bl 64 192 (wordN m 3)
 | 3 => Rx.bl 64 192 (wordN m 3)
 | _ => []
theorem tailB_succ (m k : Nat) (hk : k < 4) : tailB m k = Rx.bl 64 (64 * k) (wordN m k) ++ tailB m (k + 1) := by
 have hc : k = 0 ∨ k = 1 ∨ k = 2 ∨ k = 3 := by omega
 rcases hc with rfl | rfl | rfl | rfl
 ·
  rfl
 ·
  rfl
 ·
  rfl
 ·
  exact (List.append_nil _).symm
theorem elems_tail (m : Nat) : Rx.elems m = tailB m 0 := by
 have w0 : Rx.bl 64 0 (wordN m 0) = Rx.bl 64 0 m := by unfold wordN; rw [Rx.bl_mod]; simp
 have w1 : Rx.bl 64 64 (wordN m 1) = Rx.bl 64 64 (m / 2 ^ 64) := by unfold wordN; rw [Rx.bl_mod]
 have w2 : Rx.bl 64 128 (wordN m 2) = Rx.bl 64 128 (m / 2 ^ 64 / 2 ^ 64) := by unfold wordN; rw [Rx.bl_mod, Nat.div_div_eq_div_mul]
 have w3 : Rx.bl 64 192 (wordN m 3) = Rx.bl 64 192 (m / 2 ^ 64 / 2 ^ 64 / 2 ^ 64) := by unfold wordN; rw [Rx.bl_mod, Nat.div_div_eq_div_mul, Nat.div_div_eq_div_mul]
 show Rx.bl 256 0 m = Rx.bl 64 0 (wordN m 0) ++ (Rx.bl 64 64 (wordN m 1) ++ (Rx.bl 64 128 (wordN m 2) ++ Rx.bl 64 192 (wordN m 3)))
 rw [w0, w1, w2, w3, show 256 = 64 + (64 + (64 + 64)) from rfl, Rx.bl_add, Rx.bl_add 64 (64 + 64), Rx.bl_add 64 64]
theorem tail_len (m k : Nat) : ∀ i, i ∈ tailB m k → i < 256 := by
 intro i hi
 have key : ∀ k, k ≤ 4 → (∀ i, i ∈ tailB m k → i < 256) := by
  intro k hk
  have hc : k = 4 ∨ k = 3 ∨ k = 2 ∨ k = 1 ∨ k = 0 := by omega
  rcases hc with rfl | rfl | rfl | rfl | rfl <;> intro i hi <;> simp only [tailB, List.mem_append, Rx.bl_mem, List.not_mem_nil] at hi <;> omega
 rcases Nat.lt_or_ge k 5 with h | h
 ·
  exact key k (by omega) i hi
 ·
  have : tailB m k = [] := by
   match k, h with
   | k + 5, _ => rfl
  rw [this] at hi; cases hi
theorem wrap_u8 (n : Int) (h0 : 0 ≤ n) (h : n < 256) : IntKind.u8.wrap n = n := by
 have : IntKind.u8.wrap n = n % 256 := by simp [IntKind.wrap, IntKind.signed, IntKind.bits]
 rw [this]; omega
theorem and_pred (x : Nat) (h0 : 0 < x) (h : x < 18446744073709551616) : bits BinOp.and IntKind.u64 (x : Int) ((x : Int) - 1) = ((x &&& (x - 1) : Nat) : Int) := by
 have := bits_and_u64_nat x (x - 1) h (by omega)
 rwa [show ((x - 1 : Nat) : Int) = (x : Int) - 1 from by omega] at this
theorem yields {m : Nat} {R : Ending → World → Prop} {l : Nat} {W : World} {v : Value} {x : El m} (hv : v = .int .u8 (x.1 : Int)) (h : YieldAt Fence.wide 7 Tryd.prog l #[.int .u8 (x.1 : Int)] W R) : YieldAt Fence.wide 7 Tryd.prog l #[v] W R := by rw [hv]; exact h
/-- the counter is k -/
def IsK (k : Nat) (i : Value) : Prop := (k = 0 ∧ i = .int .i64 0) ∨ (k = 1 ∧ i = .int .i64 1) ∨ (k = 2 ∧ i = .int .i64 2) ∨ (k = 3 ∧ i = .int .i64 3) ∨ (k = 4 ∧ i = .int .i64 4)
set_option maxHeartbeats 4000000 in
theorem all1_in (l Bs m : Nat) (J Jx : List (El m) → World → Prop)
  (hY : ∀ pre x W, J pre W → pre.length < (Rx.elems m).length → YieldAt Fence.wide 7 Tryd.prog l #[.int .u8 (x.1 : Int)] W fun e W' =>
   (e = .returned (.bool true) ∧ J (pre ++ [x]) W' ∧ KB W W') ∨ (e = .returned (.bool false) ∧ Jx (pre ++ [x]) W'))
  (W : World) (h0c : W.cell? ⟨Bs, 0, none⟩ = some (.int .u64 (word m 0))) (h1c : W.cell? ⟨Bs, 1, none⟩ = some (.int .u64 (word m 1))) (h2c : W.cell? ⟨Bs, 2, none⟩ = some (.int .u64 (word m 2))) (h3c : W.cell? ⟨Bs, 3, none⟩ = some (.int .u64 (word m 3))) (hT : Tab W) (h0 : J [] W) :
  CallsIn Fence.wide 8 Tryd.prog 52 #[.func (.yield l) #[] #[], .pointer (some ⟨Bs, 0, none⟩)] W fun e W' => (∃ v, e = .returned v) ∧
   ((∃ ys : List (El m), ys.map Subtype.val = Rx.elems m ∧ J ys W') ∨ (∃ pre : List (El m), pre.map Subtype.val <+: Rx.elems m ∧ Jx pre W')) := by
 refine callsIn_of_wp Tryd.func52 rfl trivial ?_ rfl
 simp only [Tryd.ntmps52, List.size_toArray, List.length_cons, List.length_nil, Nat.reduceAdd, Nat.reduceSub, Array.replicate_succ, Array.replicate_zero, List.push_toArray, List.append_toArray, List.nil_append, List.cons_append]
 have HE := Lib.hid (elems_tail m)
 have HH := Lib.hid hY
 have H0 := Lib.hid h0
 clear hY h0
 gi_wp2
 gi_loopw [3, 4, 6] (fun _ _ i wr => ∃ (k : Nat) (pre : List (El m)), IsK k i ∧ pre.map Subtype.val ++ tailB m k = Rx.elems m ∧ J pre wr ∧ Tab wr) (fun _ _ i _ => 4 - (intOf i).toNat)
 case atStart => exact ⟨0, [], .inl ⟨rfl, rfl⟩, HE.out.symm, H0.out, hT⟩
 case round =>
  obtain ⟨k, pre, hk, hE, hJ, hT1⟩ := hrel
  have HJ := Lib.hid hJ
  have hE1 := Lib.hid hE
  clear h0c h1c h2c h3c hT H0 HE hE hJ
  rcases hk with ⟨rfl, rfl⟩ | ⟨rfl, rfl⟩ | ⟨rfl, rfl⟩ | ⟨rfl, rfl⟩ | ⟨rfl, rfl⟩
  ·
   have hst : pre.map Subtype.val ++ (Rx.bl 64 0 (wordN m 0) ++ tailB m 1) = Rx.elems m := by rw [← hE1.out, tailB_succ m 0 (by omega)]
   have HS := Lib.hid hst
   have hwl := wordN_lt m 0
   clear hst hE1
   have ix : ∀ w, (Instr.index 45 (.agg #[.int .u64 (word m 0), .int .u64 (word m 1), .int .u64 (word m 2), .int .u64 (word m 3)]) (.int .i64 0)).run Tryd.prog w = .ok (.int .u64 (word m 0)) w := fun _ => by kernel_rfl
   obtain ⟨wo, rfl⟩ : ∃ wo : World, wo = wr := ⟨_, rfl⟩
   gi_wp2
   gi_loopw [4] (fun xv wr => ∃ (x : Nat) (pre : List (El m)), xv = .int .u64 (x : Int) ∧ x < 18446744073709551616 ∧ pre.map Subtype.val ++ (Rx.bl 64 0 x ++ tailB m 1) = Rx.elems m ∧ J pre wr ∧ Tab wr) (fun xv _ => (intOf xv).toNat)
   case atStart => exact ⟨wordN m 0, pre, rfl, hwl, HS.out, HJ.out, hT1⟩
   case round =>
    clear HS HJ hT1 hwl pre
    obtain ⟨x, pre, rfl, hx, hE, hJ, hT1⟩ := hrel
    by_cases h0 : x = 0
    ·
     have hd : pre.map Subtype.val ++ tailB m 1 = Rx.elems m := by rw [← hE, h0, Rx.bl_zero]; rfl
     have HD := Lib.hid hd
     have hn : ((x : Int) != 0) = false := by rw [h0]; rfl
     clear hE hd h0
     gi_wp2
     go_roundw
     case rel => exact ⟨1, pre, .inr (.inl ⟨rfl, rfl⟩), HD.out, hJ, hT1⟩
     case measure => simp [intOf]
    ·
     have hst := Rx.bl_step 64 0 x (by omega) hx
     have ec : Lib.ctzFrom 64 x = Lib.ctz 64 x := by unfold Lib.ctz; rw [if_neg h0]
     have hcl := (Lib.lowest_bit 64 x h0 hx).2
     rw [ec] at hst
     have hmem : 0 + Lib.ctz 64 x ∈ Rx.elems m := by rw [← hE, hst]; simp
     have HTz := Lib.hid (tz_any x hx h0 wr hT1)
     have hap := and_pred x (by omega) hx
     have hE2 : (pre.map Subtype.val ++ [0 + Lib.ctz 64 x]) ++ (Rx.bl 64 0 (x &&& (x - 1)) ++ tailB m 1) = Rx.elems m := by rw [← hE, hst]; simp
     have hlt2 : x &&& (x - 1) < x := by
      have := Nat.and_le_right (n := x) (m := x - 1)
      omega
     have hpl : pre.length < (Rx.elems m).length := by rw [← hE2]; simp
     have hn : ((x : Int) != 0) = true := by rw [bne_iff_ne]; omega
     have hx1 : 0 < x := by omega
     clear hE hst ec h0
     generalize Lib.ctz 64 x = c at *
     obtain ⟨q, hq⟩ : ∃ q : El m, q.1 = 0 + c := ⟨⟨0 + c, Rx.elems_mem.1 hmem⟩, rfl⟩
     have hw : IntKind.u8.wrap (0 + (c : Int)) = ((0 + c : Nat) : Int) := by rw [wrap_u8 _ (by omega) (by omega)]; simp
     have hY1 := HH.out pre q wr hJ hpl
     have HY1 := Lib.hid hY1
     have HE2 := Lib.hid hE2
     have HAP := Lib.hid hap
     have HW := Lib.hid hw
     have HQ := Lib.hid hq
     clear hY1 hE2 hap hw hmem hq
     gi_wp2
     refine ⟨trivial, (callsIn_wide.2 HTz.out).mono ?_⟩
     rintro e w2 ⟨rfl, rfl⟩
     obtain ⟨fn, tmps, assign, body, hy, hR⟩ := yields (v := .int .u8 ((c : Int))) (by rw [HQ.out]; simp) HY1.out
     clear HTz HY1
     gi_wp2
     refine hR.mono ?_
     rintro e W3 (⟨rfl, hJ3, hk3⟩ | ⟨rfl, hJx3⟩)
     ·
      have hT3 := hk3.tab hT1
      have HJ3 := Lib.hid hJ3
      have HL := Lib.hid hlt2
      clear hR hJ3 hJ hk3 hT1 hy hlt2
      have hap := HAP.out
      gi_wp2
      go_roundw
      case rel => exact ⟨x &&& (x - 1), pre ++ [q], rfl, Nat.lt_trans HL.out hx, by rw [List.map_append, List.map_cons, List.map_nil, HQ.out]; exact HE2.out, HJ3.out, hT3⟩
      case measure => simp [intOf]; exact HL.out
     ·
      have HJ3 := Lib.hid hJx3
      clear hR hJx3 hJ hy
      gi_wp2
      refine bodyPost_ret (results_none rfl _ _ _) rfl ?_
      exact ⟨⟨_, rfl⟩, .inr ⟨pre ++ [q], by rw [List.map_append, List.map_cons, List.map_nil, HQ.out, ← HE2.out]; exact List.prefix_append _ _, HJ3.out⟩⟩
  ·
   have hst : pre.map Subtype.val ++ (Rx.bl 64 64 (wordN m 1) ++ tailB m 2) = Rx.elems m := by rw [← hE1.out, tailB_succ m 1 (by omega)]
   have HS := Lib.hid hst
   have hwl := wordN_lt m 1
   clear hst hE1
   have ix : ∀ w, (Instr.index 45 (.agg #[.int .u64 (word m 0), .int .u64 (word m 1), .int .u64 (word m 2), .int .u64 (word m 3)]) (.int .i64 1)).run Tryd.prog w = .ok (.int .u64 (word m 1)) w := fun _ => by kernel_rfl
   obtain ⟨wo, rfl⟩ : ∃ wo : World, wo = wr := ⟨_, rfl⟩
   gi_wp2
   gi_loopw [4] (fun xv wr => ∃ (x : Nat) (pre : List (El m)), xv = .int .u64 (x : Int) ∧ x < 18446744073709551616 ∧ pre.map Subtype.val ++ (Rx.bl 64 64 x ++ tailB m 2) = Rx.elems m ∧ J pre wr ∧ Tab wr) (fun xv _ => (intOf xv).toNat)
   case atStart => exact ⟨wordN m 1, pre, rfl, hwl, HS.out, HJ.out, hT1⟩
   case round =>
    clear HS HJ hT1 hwl pre
    obtain ⟨x, pre, rfl, hx, hE, hJ, hT1⟩ := hrel
    by_cases h0 : x = 0
    ·
     have hd : pre.map Subtype.val ++ tailB m 2 = Rx.elems m := by rw [← hE, h0, Rx.bl_zero]; rfl
     have HD := Lib.hid hd
     have hn : ((x : Int) != 0) = false := by rw [h0]; rfl
     clear hE hd h0
     gi_wp2
     go_roundw
     case rel => exact ⟨2, pre, .inr (.inr (.inl ⟨rfl, rfl⟩)), HD.out, hJ, hT1⟩
     case measure => simp [intOf]
    ·
     have hst := Rx.bl_step 64 64 x (by omega) hx
     have ec : Lib.ctzFrom 64 x = Lib.ctz 64 x := by unfold Lib.ctz; rw [if_neg h0]
     have hcl := (Lib.lowest_bit 64 x h0 hx).2
     rw [ec] at hst
     have hmem : 64 + Lib.ctz 64 x ∈ Rx.elems m := by rw [← hE, hst]; simp
     have HTz := Lib.hid (tz_any x hx h0 wr hT1)
     have hap := and_pred x (by omega) hx
     have hE2 : (pre.map Subtype.val ++ [64 + Lib.ctz 64 x]) ++ (Rx.bl 64 64 (x &&& (x - 1)) ++ tailB m 2) = Rx.elems m := by rw [← hE, hst]; simp
     have hlt2 : x &&& (x - 1) < x := by
      have := Nat.and_le_right (n := x) (m := x - 1)
      omega
     have hpl : pre.length < (Rx.elems m).length := by rw [← hE2]; simp
     have hn : ((x : Int) != 0) = true := by rw [bne_iff_ne]; omega
     have hx1 : 0 < x := by omega
     clear hE hst ec h0
     generalize Lib.ctz 64 x = c at *
     obtain ⟨q, hq⟩ : ∃ q : El m, q.1 = 64 + c := ⟨⟨64 + c, Rx.elems_mem.1 hmem⟩, rfl⟩
     have hw : IntKind.u8.wrap (64 + (c : Int)) = ((64 + c : Nat) : Int) := by rw [wrap_u8 _ (by omega) (by omega)]; simp
     have hY1 := HH.out pre q wr hJ hpl
     have HY1 := Lib.hid hY1
     have HE2 := Lib.hid hE2
     have HAP := Lib.hid hap
     have HW := Lib.hid hw
     have HQ := Lib.hid hq
     clear hY1 hE2 hap hw hmem hq
     gi_wp2
     refine ⟨trivial, (callsIn_wide.2 HTz.out).mono ?_⟩
     rintro e w2 ⟨rfl, rfl⟩
     obtain ⟨fn, tmps, assign, body, hy, hR⟩ := yields (v := .int .u8 (64 + (c : Int))) (by rw [HQ.out]; simp) HY1.out
     clear HTz HY1
     gi_wp2
     refine hR.mono ?_
     rintro e W3 (⟨rfl, hJ3, hk3⟩ | ⟨rfl, hJx3⟩)
     ·
      have hT3 := hk3.tab hT1
      have HJ3 := Lib.hid hJ3
      have HL := Lib.hid hlt2
      clear hR hJ3 hJ hk3 hT1 hy hlt2
      have hap := HAP.out
      gi_wp2
      go_roundw
      case rel => exact ⟨x &&& (x - 1), pre ++ [q], rfl, Nat.lt_trans HL.out hx, by rw [List.map_append, List.map_cons, List.map_nil, HQ.out]; exact HE2.out, HJ3.out, hT3⟩
      case measure => simp [intOf]; exact HL.out
     ·
      have HJ3 := Lib.hid hJx3
      clear hR hJx3 hJ hy
      gi_wp2
      refine bodyPost_ret (results_none rfl _ _ _) rfl ?_
      exact ⟨⟨_, rfl⟩, .inr ⟨pre ++ [q], by rw [List.map_append, List.map_cons, List.map_nil, HQ.out, ← HE2.out]; exact List.prefix_append _ _, HJ3.out⟩⟩
  ·
   have hst : pre.map Subtype.val ++ (Rx.bl 64 128 (wordN m 2) ++ tailB m 3) = Rx.elems m := by rw [← hE1.out, tailB_succ m 2 (by omega)]
   have HS := Lib.hid hst
   have hwl := wordN_lt m 2
   clear hst hE1
   have ix : ∀ w, (Instr.index 45 (.agg #[.int .u64 (word m 0), .int .u64 (word m 1), .int .u64 (word m 2), .int .u64 (word m 3)]) (.int .i64 2)).run Tryd.prog w = .ok (.int .u64 (word m 2)) w := fun _ => by kernel_rfl
   obtain ⟨wo, rfl⟩ : ∃ wo : World, wo = wr := ⟨_, rfl⟩
   gi_wp2
   gi_loopw [4] (fun xv wr => ∃ (x : Nat) (pre : List (El m)), xv = .int .u64 (x : Int) ∧ x < 18446744073709551616 ∧ pre.map Subtype.val ++ (Rx.bl 64 128 x ++ tailB m 3) = Rx.elems m ∧ J pre wr ∧ Tab wr) (fun xv _ => (intOf xv).toNat)
   case atStart => exact ⟨wordN m 2, pre, rfl, hwl, HS.out, HJ.out, hT1⟩
   case round =>
    clear HS HJ hT1 hwl pre
    obtain ⟨x, pre, rfl, hx, hE, hJ, hT1⟩ := hrel
    by_cases h0 : x = 0
    ·
     have hd : pre.map Subtype.val ++ tailB m 3 = Rx.elems m := by rw [← hE, h0, Rx.bl_zero]; rfl
     have HD := Lib.hid hd
     have hn : ((x : Int) != 0) = false := by rw [h0]; rfl
     clear hE hd h0
     gi_wp2
     go_roundw
     case rel => exact ⟨3, pre, .inr (.inr (.inr (.inl ⟨rfl, rfl⟩))), HD.out, hJ, hT1⟩
     case measure => simp [intOf]
    ·
     have hst := Rx.bl_step 64 128 x (by omega) hx
     have ec : Lib.ctzFrom 64 x = Lib.ctz 64 x := by unfold Lib.ctz; rw [if_neg h0]
     have hcl := (Lib.lowest_bit 64 x h0 hx).2
     rw [ec] at hst
     have hmem : 128 + Lib.ctz 64 x ∈ Rx.elems m := by rw [← hE, hst]; simp
     have HTz := Lib.hid (tz_any x hx h0 wr hT1)
     have hap := and_pred x (by omega) hx
     have hE2 : (pre.map Subtype.val ++ [128 + Lib.ctz 64 x]) ++ (Rx.bl 64 128 (x &&& (x - 1)) ++ tailB m 3) = Rx.elems m := by rw [← hE, hst]; simp
     have hlt2 : x &&& (x - 1) < x := by
      have := Nat.and_le_right (n := x) (m := x - 1)
      omega
     have hpl : pre.length < (Rx.elems m).length := by rw [← hE2]; simp
     have hn : ((x : Int) != 0) = true := by rw [bne_iff_ne]; omega
     have hx1 : 0 < x := by omega
     clear hE hst ec h0
     generalize Lib.ctz 64 x = c at *
     obtain ⟨q, hq⟩ : ∃ q : El m, q.1 = 128 + c := ⟨⟨128 + c, Rx.elems_mem.1 hmem⟩, rfl⟩
     have hw : IntKind.u8.wrap (128 + (c : Int)) = ((128 + c : Nat) : Int) := by rw [wrap_u8 _ (by omega) (by omega)]; simp
     have hY1 := HH.out pre q wr hJ hpl
     have HY1 := Lib.hid hY1
     have HE2 := Lib.hid hE2
     have HAP := Lib.hid hap
     have HW := Lib.hid hw
     have HQ := Lib.hid hq
     clear hY1 hE2 hap hw hmem hq
     gi_wp2
     refine ⟨trivial, (callsIn_wide.2 HTz.out).mono ?_⟩
     rintro e w2 ⟨rfl, rfl⟩
     obtain ⟨fn, tmps, assign, body, hy, hR⟩ := yields (v := .int .u8 (128 + (c : Int))) (by rw [HQ.out]; simp) HY1.out
     clear HTz HY1
     gi_wp2
     refine hR.mono ?_
     rintro e W3 (⟨rfl, hJ3, hk3⟩ | ⟨rfl, hJx3⟩)
     ·
      have hT3 := hk3.tab hT1
      have HJ3 := Lib.hid hJ3
      have HL := Lib.hid hlt2
      clear hR hJ3 hJ hk3 hT1 hy hlt2
      have hap := HAP.out
      gi_wp2
      go_roundw
      case rel => exact ⟨x &&& (x - 1), pre ++ [q], rfl, Nat.lt_trans HL.out hx, by rw [List.map_append, List.map_cons, List.map_nil, HQ.out]; exact HE2.out, HJ3.out, hT3⟩
      case measure => simp [intOf]; exact HL.out
     ·
      have HJ3 := Lib.hid hJx3
      clear hR hJx3 hJ hy
      gi_wp2
      refine bodyPost_ret (results_none rfl _ _ _) rfl ?_
      exact ⟨⟨_, rfl⟩, .inr ⟨pre ++ [q], by rw [List.map_append, List.map_cons, List.map_nil, HQ.out, ← HE2.out]; exact List.prefix_append _ _, HJ3.out⟩⟩
  ·
   have hst : pre.map Subtype.val ++ (Rx.bl 64 192 (wordN m 3) ++ tailB m 4) = Rx.elems m := by rw [← hE1.out, tailB_succ m 3 (by omega)]
   have HS := Lib.hid hst
   have hwl := wordN_lt m 3
   clear hst hE1
   have ix : ∀ w, (Instr.index 45 (.agg #[.int .u64 (word m 0), .int .u64 (word m 1), .int .u64 (word m 2), .int .u64 (word m 3)]) (.int .i64 3)).run Tryd.prog w = .ok (.int .u64 (word m 3)) w := fun _ => by kernel_rfl
   obtain ⟨wo, rfl⟩ : ∃ wo : World, wo = wr := ⟨_, rfl⟩
   gi_wp2
   gi_loopw [4] (fun xv wr => ∃ (x : Nat) (pre : List (El m)), xv = .int .u64 (x : Int) ∧ x < 18446744073709551616 ∧ pre.map Subtype.val ++ (Rx.bl 64 192 x ++ tailB m 4) = Rx.elems m ∧ J pre wr ∧ Tab wr) (fun xv _ => (intOf xv).toNat)
   case atStart => exact ⟨wordN m 3, pre, rfl, hwl, HS.out, HJ.out, hT1⟩
   case round =>
    clear HS HJ hT1 hwl pre
    obtain ⟨x, pre, rfl, hx, hE, hJ, hT1⟩ := hrel
    by_cases h0 : x = 0
    ·
     have hd : pre.map Subtype.val ++ tailB m 4 = Rx.elems m := by rw [← hE, h0, Rx.bl_zero]; rfl
     have HD := Lib.hid hd
     have hn : ((x : Int) != 0) = false := by rw [h0]; rfl
     clear hE hd h0
     gi_wp2
     go_roundw
     case rel => exact ⟨4, pre, .inr (.inr (.inr (.inr (⟨rfl, rfl⟩)))), HD.out, hJ, hT1⟩
     case measure => simp [intOf]
    ·
     have hst := Rx.bl_step 64 192 x (by omega) hx
     have ec : Lib.ctzFrom 64 x = Lib.ctz 64 x := by unfold Lib.ctz; rw [if_neg h0]
     have hcl := (Lib.lowest_bit 64 x h0 hx).2
     rw [ec] at hst
     have hmem : 192 + Lib.ctz 64 x ∈ Rx.elems m := by rw [← hE, hst]; simp
     have HTz := Lib.hid (tz_any x hx h0 wr hT1)
     have hap := and_pred x (by omega) hx
     have hE2 : (pre.map Subtype.val ++ [192 + Lib.ctz 64 x]) ++ (Rx.bl 64 192 (x &&& (x - 1)) ++ tailB m 4) = Rx.elems m := by rw [← hE, hst]; simp
     have hlt2 : x &&& (x - 1) < x := by
      have := Nat.and_le_right (n := x) (m := x - 1)
      omega
     have hpl : pre.length < (Rx.elems m).length := by rw [← hE2]; simp
     have hn : ((x : Int) != 0) = true := by rw [bne_iff_ne]; omega
     have hx1 : 0 < x := by omega
     clear hE hst ec h0
     generalize Lib.ctz 64 x = c at *
     obtain ⟨q, hq⟩ : ∃ q : El m, q.1 = 192 + c := ⟨⟨192 + c, Rx.elems_mem.1 hmem⟩, rfl⟩
     have hw : IntKind.u8.wrap (192 + (c : Int)) = ((192 + c : Nat) : Int) := by rw [wrap_u8 _ (by omega) (by omega)]; simp
     have hY1 := HH.out pre q wr hJ hpl
     have HY1 := Lib.hid hY1
     have HE2 := Lib.hid hE2
     have HAP := Lib.hid hap
     have HW := Lib.hid hw
     have HQ := Lib.hid hq
     clear hY1 hE2 hap hw hmem hq
     gi_wp2
     refine ⟨trivial, (callsIn_wide.2 HTz.out).mono ?_⟩
     rintro e w2 ⟨rfl, rfl⟩
     obtain ⟨fn, tmps, assign, body, hy, hR⟩ := yields (v := .int .u8 (192 + (c : Int))) (by rw [HQ.out]; simp) HY1.out
     clear HTz HY1
     gi_wp2
     refine hR.mono ?_
     rintro e W3 (⟨rfl, hJ3, hk3⟩ | ⟨rfl, hJx3⟩)
     ·
      have hT3 := hk3.tab hT1
      have HJ3 := Lib.hid hJ3
      have HL := Lib.hid hlt2
      clear hR hJ3 hJ hk3 hT1 hy hlt2
      have hap := HAP.out
      gi_wp2
      go_roundw
      case rel => exact ⟨x &&& (x - 1), pre ++ [q], rfl, Nat.lt_trans HL.out hx, by rw [List.map_append, List.map_cons, List.map_nil, HQ.out]; exact HE2.out, HJ3.out, hT3⟩
      case measure => simp [intOf]; exact HL.out
     ·
      have HJ3 := Lib.hid hJx3
      clear hR hJx3 hJ hy
      gi_wp2
      refine bodyPost_ret (results_none rfl _ _ _) rfl ?_
      exact ⟨⟨_, rfl⟩, .inr ⟨pre ++ [q], by rw [List.map_append, List.map_cons, List.map_nil, HQ.out, ← HE2.out]; exact List.prefix_append _ _, HJ3.out⟩⟩
  ·
   have hfin : pre.map Subtype.val = Rx.elems m := by rw [← hE1.out]; exact (List.append_nil _).symm
   have HF := Lib.hid hfin
   clear hfin hE1
   gi_wp2
   go_end0
   exact ⟨⟨_, rfl⟩, .inl ⟨_, HF.out, HJ.out⟩⟩
end Go.Proofs.YtcfdpbbpdnpnnaaDoor
