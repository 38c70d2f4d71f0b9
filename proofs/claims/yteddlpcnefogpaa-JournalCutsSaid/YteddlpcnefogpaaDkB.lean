/- slices.Values of bytes: the iterator's contract. It reads one block, which the rounds leave as it is. -/
import Derived.RangeFuncNested
import Derived.RangeFuncBound
import Derived.RangeFuncCalls
import Derived.RangeFuncLeaves
import Derived.RangeFuncBox
import Derived.Shelf.Abstract
import Derived.Shelf.RegionOpen
import Derived.WalkKit
import Derived.OwnWalkIn
import Derived.TacticsInMore
import Derived.LoopNIn
import Derived.LoopIn
import Derived.Handy
import Derived.Test.YteddlpcnefogpaaDkA
namespace Go.Proofs.Yteddlpcnefogpaa
open Go Go.Proofs Go.RowKit Go.Shelf
set_option maxRecDepth 100000
attribute [local go_sem] Oper.semAt_some
abbrev byV (x : UInt8) : Value := .int .u8 (x.toNat : Int)
/-- the slice value sv holds the bytes zs; or there are none -/
def Bys (W : World) (sv : Value) (zs : List UInt8) : Prop :=
  ((∃ a c, sv = .slice a 0 c) ∧ zs = []) ∨ ∃ b off cap, sv = .slice (some ⟨b, off, none⟩) zs.length cap ∧ b < W.heap.size ∧ ∀ j x, zs[j]? = some x → W.cell? ⟨b, off + j, none⟩ = some (byV x)
/-- a block, if there is one, lies as it lay -/
def SameB (o : Option Nat) (A B : World) : Prop := ∀ b, o = some b → B.heap[b]? = A.heap[b]?
theorem sameB_refl (o : Option Nat) (A : World) : SameB o A A := fun _ _ => rfl
theorem sameB_t {o : Option Nat} {A B C : World} (h : SameB o A B) (k : SameB o B C) : SameB o A C := fun b e => (k b e).trans (h b e)
theorem sameB_b {o : Option Nat} {w : World} (ho : ∀ b, o = some b → b < w.heap.size) (W : World) (l : Nat) (p p' : Obj) (hl : w.heap.size ≤ l) (_ : W.heap[l]? = some p) (_ : p.isCells = false) (_ : p.isWalk = false) : SameB o W (W.putObj l p') :=
  fun b e => World.putObj_heap_other (by have := ho b e; omega)
theorem sameB_grown {o r : Option Nat} {A B : World} (h : A.grownBy B r) (ho : ∀ b, o = some b → b < A.heap.size) (hne : ∀ b, o = some b → r ≠ some b) : SameB o A B :=
  fun b e => h.block b (ho b e) (fun q => hne b e q.symm)
theorem Bys.lt {W : World} {sv : Value} {zs : List UInt8} (h : Bys W sv zs) (hz : zs ≠ []) : ∀ b, sv.ownBlock = some b → b < W.heap.size := by
  rcases h with ⟨_, rfl⟩ | ⟨b, off, cap, rfl, hb, _⟩
  · exact absurd rfl hz
  · intro k e
    obtain rfl : b = k := by simpa [Value.ownBlock] using e
    exact hb
theorem Bys.same {A B : World} {sv : Value} {zs : List UInt8} (h : Bys A sv zs) (hz : A.heap.size ≤ B.heap.size) (hs : SameB sv.ownBlock A B) : Bys B sv zs := by
  rcases h with e | ⟨b, off, cap, rfl, hb, hc⟩
  · exact .inl e
  · exact .inr ⟨b, off, cap, rfl, Nat.lt_of_lt_of_le hb hz, fun j x hj => (World.cell?_of_block (hs b rfl)).trans (hc j x hj)⟩
theorem Bys.below {A B : World} {sv : Value} {zs : List UInt8} (h : Bys A sv zs) (hb : Below A.heap.size A B) : Bys B sv zs := by
  rcases h with e | ⟨b, off, cap, rfl, hlt, hc⟩
  · exact .inl e
  · exact .inr ⟨b, off, cap, rfl, Nat.lt_of_lt_of_le hlt hb.size, fun j x hj => (hb.cell (p := ⟨b, off + j, none⟩) hlt).trans (hc j x hj)⟩
set_option maxHeartbeats 4000000 in
theorem values1_in (F : Fence) (n : Nat) (hf : F.fn 45) (hro : F.round = none) (hn : 1 ≤ n) (l Bs b off cap : Nat) (zs : List UInt8) (hreach : zs.length ≤ 1099511627776) (J Jx : List UInt8 → World → Prop)
    (hY : ∀ pre x W, J pre W → pre.length < zs.length → YieldAt F (n - 1) Try.prog l #[byV x] W fun e W' =>
      (e = .returned (.bool true) ∧ J (pre ++ [x]) W' ∧ SameB (some b) W W') ∨ (e = .returned (.bool false) ∧ Jx (pre ++ [x]) W'))
    (W : World) (hBs : W.cell? ⟨Bs, 0, none⟩ = some (.slice (some ⟨b, off, none⟩) zs.length cap))
    (hc : ∀ j x, zs[j]? = some x → W.cell? ⟨b, off + j, none⟩ = some (byV x)) (h0 : J [] W) :
    CallsIn F n Try.prog 45 #[.func (.yield l) #[] #[], .pointer (some ⟨Bs, 0, none⟩)] W fun e W' => (∃ v, e = .returned v) ∧
      ((∃ ys, ys = zs ∧ J ys W') ∨ (∃ pre, pre <+: zs ∧ Jx pre W')) := by
  refine callsIn_of_wp Try.func45 rfl hf ?_ hro
  simp only [Try.ntmps45, List.size_toArray, List.length_cons, List.length_nil, Nat.reduceAdd, Nat.reduceSub, Array.replicate_succ, Array.replicate_zero, List.push_toArray, List.append_toArray, List.nil_append, List.cons_append]
  gi_wp2
  gi_loopw [7] (fun i wr => ∃ k : Nat, k ≤ zs.length ∧ i = .int .i64 (k : Int) ∧ J (zs.take k) wr ∧ SameB (some b) W wr)
    (fun i _ => zs.length - (intOf i).toNat)
  case atStart => exact ⟨0, Nat.zero_le _, rfl, h0, sameB_refl _ _⟩
  case round =>
    obtain ⟨k, hk, rfl, hJs, hnx⟩ := hrel
    by_cases hlt : k < zs.length
    · obtain ⟨x, hx⟩ : ∃ x, zs[k]? = some x := ⟨_, List.getElem?_eq_getElem hlt⟩
      obtain ⟨hn1, he1⟩ := List.getElem?_eq_some_iff.1 hx
      have htk : zs.take (k + 1) = zs.take k ++ [x] := by rw [List.take_succ_eq_append_getElem hn1, he1]
      have c0 := (World.cell?_of_block (a := ⟨b, off + k, none⟩) (hnx b rfl)).trans (hc k x hx)
      obtain ⟨fn, tmps, assign, body, hy, hR⟩ := hY _ x _ hJs (by rw [List.length_take]; omega)
      have h1 : (0 : Int) ≤ (k : Int) := by omega
      have h2 : (k : Int) < (zs.length : Int) := by omega
      have TK := Lib.hid htk
      clear htk hx he1
      gi_wp2
      refine hR.mono ?_
      rintro e W3 (⟨rfl, hJ3, hk3⟩ | ⟨rfl, hJx3⟩)
      · gi_wp2
        go_roundw
        case rel => exact ⟨k + 1, by omega, by simp, by rw [TK.out]; exact hJ3, sameB_t hnx hk3⟩
        case measure => simp [intOf]; omega
      · gi_wp2
        refine bodyPost_ret (results_none rfl _ _ _) rfl ?_
        exact ⟨⟨_, rfl⟩, .inr ⟨_, by rw [← TK.out]; exact List.take_prefix _ _, hJx3⟩⟩
    · obtain rfl : k = zs.length := by omega
      gi_wp2
      go_end0
      rw [List.take_length] at hJs
      exact ⟨⟨_, rfl⟩, .inl ⟨_, rfl, hJs⟩⟩
theorem values1_nil_in (F : Fence) (n : Nat) (hf : F.fn 45) (hro : F.round = none) (l Bs : Nat) (J : List UInt8 → World → Prop) (a : Option Addr) (c : Nat) (W : World) (hBs : W.cell? ⟨Bs, 0, none⟩ = some (.slice a 0 c)) (h0 : J [] W) :
    CallsIn F n Try.prog 45 #[.func (.yield l) #[] #[], .pointer (some ⟨Bs, 0, none⟩)] W fun e W' => (∃ v, e = .returned v) ∧ J [] W' := by
  refine callsIn_of_wp Try.func45 rfl hf ?_ hro
  simp only [Try.ntmps45, List.size_toArray, List.length_cons, List.length_nil, Nat.reduceAdd, Nat.reduceSub, Array.replicate_succ, Array.replicate_zero, List.push_toArray, List.append_toArray, List.nil_append, List.cons_append]
  gi_wp2
  gi_loopw [7] (fun i wr => i = .int .i64 0 ∧ J [] wr) (fun _ _ => 0)
  case atStart => exact ⟨rfl, h0⟩
  case round =>
    obtain ⟨rfl, hJs⟩ := hrel
    gi_wp2
    go_end0
    exact ⟨⟨_, rfl⟩, hJs⟩
theorem values_in (F : Fence) (n : Nat) (hf : F.fn 41) (hro : F.round = none) (a : Option Addr) (len cap : Nat) (w : World) :
    CallsIn F n Try.prog 41 #[.slice a len cap] w fun e w' => e = .returned (.func (.func 45) #[] #[.pointer (some ⟨w.heap.size, 0, none⟩)]) ∧ w' = w.alloc (.cells #[.slice a len cap] 22) := by
  refine callsIn_of_wp Try.func41 rfl hf ?_ hro
  simp only [Try.ntmps41, List.size_toArray, List.length_cons, List.length_nil, Nat.reduceAdd, Nat.reduceSub, Array.replicate_succ, Array.replicate_zero, List.push_toArray, List.append_toArray, List.nil_append, List.cons_append]
  gi_wp2
  go_ret
  exact ⟨rfl, rfl⟩
/-- all of zs, in order; or a front of them -/
theorem values_stops (F : Fence) (n : Nat) (hf : F.fn 45) (hro : F.round = none) (hn : 1 ≤ n) (Bs : Nat) (sv : Value) (zs : List UInt8) (o : Option Nat) (ho : zs ≠ [] → sv.ownBlock = o) (hreach : zs.length ≤ 1099511627776) (w : World) (hBs : Bs < w.heap.size)
    (hc : w.cell? ⟨Bs, 0, none⟩ = some sv) (hI : Bys w sv zs) :
    SeqStopsK F n Try.prog 45 #[.pointer (some ⟨Bs, 0, none⟩)] (fun x : UInt8 => #[byV x]) (SameB o) (fun ys => ys = zs) (fun pre => pre <+: zs) zs.length w := fun l J Jx W hW hJ _ hY h0 => by
  have hc' := (hW.cell (p := ⟨Bs, 0, none⟩) hBs).trans hc
  rcases hI.below hW with ⟨⟨a0, k0, rfl⟩, rfl⟩ | ⟨b, off, cap, rfl, hb, hcs⟩
  · exact (values1_nil_in F n hf hro l Bs J a0 k0 W hc' h0).mono fun e W' ⟨he, hj⟩ => ⟨he, .inl ⟨_, rfl, hj⟩⟩
  · by_cases hz : zs = []
    · subst hz
      exact (values1_nil_in F n hf hro l Bs J _ cap W hc' h0).mono fun e W' ⟨he, hj⟩ => ⟨he, .inl ⟨_, rfl, hj⟩⟩
    · obtain rfl := ho hz
      exact (values1_in F n hf hro hn l Bs b off cap zs hreach J Jx hY W hc' hcs h0).mono fun e W' h => h
end Go.Proofs.Yteddlpcnefogpaa
