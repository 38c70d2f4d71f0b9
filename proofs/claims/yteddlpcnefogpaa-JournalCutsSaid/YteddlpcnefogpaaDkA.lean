/- slices.Grow at bytes: a row that a call owns gets room. -/
import Derived.WalkKit
import Derived.Lib.Walk
import Derived.Lib.SliceRun
import Derived.Lib.Hide
import Derived.Lib.AppendZerosOnto
import Derived.Laws.AppendOwn
import Derived.Lib.ItoaNum
import Derived.Test.YteddlpcnefogpaaOps
import Derived.Test.YteddlpcnefogpaaProg
namespace Go.Proofs.Yteddlpcnefogpaa
open Go Go.Proofs Go.RowKit Go.Lib
set_option maxRecDepth 100000
theorem info_u8 : (Try.prog.info? 5).map (fun i => (i.zero, i.size, i.bytes)) = some (some (.int .u8 0), 1, 1) := by kernel_rfl
theorem grownBy_refl (w : World) (r : Option Nat) : w.grownBy w r := ⟨rfl, rfl, rfl, Nat.le_refl _, fun _ _ _ => rfl⟩
theorem grownBy_trans {w w1 w2 : World} {r r1 : Option Nat} (h : w.grownBy w1 r) (k : w1.grownBy w2 r1) (hr : ∀ g, r1 = some g → r = some g ∨ w.heap.size ≤ g) : w.grownBy w2 r :=
  ⟨k.os.trans h.os, k.tape.trans h.tape, k.output.trans h.output, Nat.le_trans h.size k.size, fun i hi hne => (k.block i (Nat.lt_of_lt_of_le hi h.size) (fun e => by
    rcases hr i e.symm with q | q
    · exact hne q.symm
    · omega)).trans (h.block i hi hne)⟩
theorem grownBy_below {B : Nat} {w w' : World} {r : Option Nat} (h : w.grownBy w' r) (hB : B ≤ w.heap.size) (hr : ∀ k, r = some k → B ≤ k) : Below B w w' := (Below.refl B w).grown h hB hr
theorem grow_room (a : Option Addr) (l c n : Nat) (w : World) (hlc : l ≤ c) (hc : c ≤ 9223372036854775807) (hroom : l + n ≤ c) :
    Calls Try.prog 40 #[.slice a l c, .int .i64 n] w fun e w' => e = .returned (.slice a l c) ∧ w = w' := by
  have h1 : ¬ ((n : Int) < 0) := by omega
  have h2 : wrap64 ((c : Int) - (l : Int)) = (c : Int) - (l : Int) := by unfold wrap64; omega
  have h3 : wrap64 ((n : Int) - ((c : Int) - (l : Int))) = (n : Int) - ((c : Int) - (l : Int)) := by unfold wrap64; omega
  have h4 : ¬ ((n : Int) - ((c : Int) - (l : Int)) > 0) := by omega
  go_enter Try.func40, Try.ntmps40
  go_wp2
  go_ret
  exact ⟨rfl, rfl⟩
set_option maxHeartbeats 4000000 in
theorem grow_new (a : Option Addr) (l c n : Nat) (cs : List Value) (w : World) (hlc : l ≤ c) (hroom : c < l + n) (hbig : l + n ≤ 1099511627776) (hcl : cs.length = c) (hnil : a = none → c = 0) (hcs : ∀ b, a = some b → ∀ j v, cs[j]? = some v → w.cell? (b.add j) = some v) :
    Calls Try.prog 40 #[.slice a l c, .int .i64 n] w fun e w' => e = .returned (.slice (some ⟨w.heap.size, 0, none⟩) l (grownCap w (l + n) c 5)) ∧
      w' = w.drew.alloc (.cells (cs.toArray ++ Builtin.zeroCells (Value.int .u8 0).cells (l + n - c) ++ Builtin.zeroCells (Value.int .u8 0).cells (grownCap w (l + n) c 5 - (l + n))) 5) := by
  obtain ⟨i0, hi0, hz0, hz1, hz2⟩ := info_parts info_u8
  have h1 : ¬ ((n : Int) < 0) := by omega
  have h2 : wrap64 ((c : Int) - (l : Int)) = (c : Int) - (l : Int) := by unfold wrap64; omega
  have h3 : wrap64 ((n : Int) - ((c : Int) - (l : Int))) = (n : Int) - ((c : Int) - (l : Int)) := by unfold wrap64; omega
  have h4 : (n : Int) - ((c : Int) - (l : Int)) > 0 := by omega
  have hck : c + (l + n - c) = l + n := by omega
  have hold : (Builtin.firstCells i0.size c (.slice a c c)).run Try.prog w.drew = .ok cs.toArray w.drew := by
    rw [hz1]
    cases a with
    | none =>
      have h0 := hnil rfl
      subst h0
      have hc0 : cs = [] := List.length_eq_zero_iff.1 hcl
      rw [hc0]
      exact run_firstCells_none w.drew 1 0 0 0
    | some b => exact run_firstCells_some w.drew 1 c b c c cs (by omega) (fun j v hj => hcs b rfl j v hj)
  have hrz : ∀ ty, (Builtin.append_ #[22, 3] ty #[.slice a c c, .int .i64 ((n : Int) - ((c : Int) - (l : Int)))]).run Try.prog w =
      .ok (.slice (some ⟨w.heap.size, 0, none⟩) (l + n) (grownCap w (l + n) c 5)) (w.drew.alloc (.cells (cs.toArray ++ Builtin.zeroCells (Value.int .u8 0).cells (l + n - c) ++ Builtin.zeroCells (Value.int .u8 0).cells (grownCap w (l + n) c 5 - (l + n))) 5)) := fun ty => by
    have h := Lib.run_append_grow_zeros (P := Try.prog) w 22 3 ty 5 i0 (.int .u8 0) .i64 .i64 Try.underlying22 Try.underlying3 hi0 hz0 a c c cs hold (l + n - c) (by omega) (by rw [hz1]; omega) (by omega) (by omega) (by rw [hz2]; omega)
      (by rw [hz2, hck]; exact growslice_fits hroom (by omega))
    rw [hck] at h
    rw [show (n : Int) - ((c : Int) - (l : Int)) = ((l + n - c : Nat) : Int) by omega]
    exact h
  have hGn : l + n ≤ grownCap w (l + n) c 5 := grownCap_ge w _ _ _
  obtain ⟨G, hG⟩ : ∃ G, G = grownCap w (l + n) c 5 := ⟨_, rfl⟩
  rw [← hG] at hrz hGn ⊢
  have hG63 : G ≤ 9223372036854775807 := by
    have := grownCap_le_maxLen w (l + n) c 5 (by unfold maxLen; omega)
    rw [← hG] at this
    unfold maxLen at this
    omega
  clear hold hck hG hcs hcl
  go_enter Try.func40, Try.ntmps40
  cases a with
  | none =>
    have h0 := hnil rfl
    subst h0
    obtain rfl : l = 0 := by omega
    go_wp2_with (at_builtin; refine Lib.wpList_append_run _ rfl _ _ _ _ rfl _ _ rfl rfl _ _ (hrz _) ?_)
    all_goals (go_ret; exact ⟨rfl, rfl⟩)
  | some b =>
    obtain ⟨ab, ao, asp⟩ := b
    go_wp2_with (at_builtin; refine Lib.wpList_append_run _ rfl _ _ _ _ rfl _ _ rfl rfl _ _ (hrz _) ?_)
    all_goals (go_ret; exact ⟨rfl, rfl⟩)
/-- what Grow answers: the row as it was, with room for n more; a new block, or the old one -/
def GrowPost (base k n : Nat) (v : Value) (X : List Value) (w : World) (e : Ending) (w' : World) : Prop :=
  ∃ a cap, e = .returned (.slice a k cap) ∧ k + n ≤ cap ∧ w'.ownsRow base 5 1 (.slice a k cap) k X ∧ w.grownBy w' none ∧ ∀ g, (Value.slice a k cap).ownBlock = some g → v.ownBlock = some g ∨ w.heap.size ≤ g
theorem grow_any (base k n : Nat) (v : Value) (X : List Value) (w : World) (hv : w.ownsRow base 5 1 v k X) (hbig : k + n ≤ 1099511627776) (hb : base ≤ w.heap.size) :
    Calls Try.prog 40 #[v, .int .i64 n] w (GrowPost base k n v X w) := by
  have hv0 := hv
  have hl0 : X.length = k := by simpa using hv.1
  rcases hv.2 with ⟨rfl, rfl⟩ | ⟨g, cap, cur, rfl, hbg, hg, hnc, hcm, hcs, htk⟩
  · by_cases h0 : n = 0
    · subst h0
      refine (grow_room none 0 0 0 w (Nat.le_refl _) (by omega) (by omega)).mono ?_
      rintro e w' ⟨rfl, rfl⟩
      exact ⟨none, 0, rfl, by omega, hv0, grownBy_refl _ _, fun g e => by simp [Value.ownBlock] at e⟩
    · have hX : X = [] := List.eq_nil_of_length_eq_zero hl0
      subst hX
      refine (grow_new none 0 0 n [] w (Nat.le_refl _) (by omega) (by omega) rfl (fun _ => rfl) (fun b e => by cases e)).mono ?_
      rintro e w' ⟨rfl, rfl⟩
      have hge := grownCap_ge w (0 + n) 0 5
      refine ⟨_, _, rfl, hge, ?_, ⟨rfl, rfl, rfl, by simp, fun i hi _ => Below.heap_alloc w.drew _ i hi⟩, fun g e => .inr (by simp [Value.ownBlock] at e; omega)⟩
      refine ⟨rfl, .inr ⟨w.heap.size, _, _, rfl, hb, heap_alloc_new w.drew _, Nat.zero_le _, grownCap_le_maxLen w _ _ _ (by unfold maxLen; omega), ?_, by simp⟩⟩
      have hz1 : (Value.int IntKind.u8 0).cells.size = 1 := rfl
      simp only [Array.size_append, List.size_toArray, size_zeroCells, hz1, List.length_nil]
      omega
  · by_cases hr : k + n ≤ cap
    · refine (grow_room (some ⟨g, 0, none⟩) k cap n w hnc (by unfold maxLen at hcm; omega) hr).mono ?_
      rintro e w' ⟨rfl, rfl⟩
      exact ⟨_, _, rfl, hr, hv0, grownBy_refl _ _, fun g' e => .inl e⟩
    · have hcl : cur.toList.length = cap := by simpa using hcs
      refine (grow_new (some ⟨g, 0, none⟩) k cap n cur.toList w hnc (by omega) hbig hcl (fun e => by cases e) (fun b e j u hj => ?_)).mono ?_
      · cases e
        rw [Addr.add_lit, Nat.zero_add]
        simp only [World.cell?, hg]
        simpa using hj
      · rintro e w' ⟨rfl, rfl⟩
        have hge := grownCap_ge w (k + n) cap 5
        refine ⟨_, _, rfl, hge, ?_, ⟨rfl, rfl, rfl, by simp, fun i hi _ => Below.heap_alloc w.drew _ i hi⟩, fun g' e => .inr (by simp [Value.ownBlock] at e; omega)⟩
        refine ⟨by simpa using hl0, .inr ⟨w.heap.size, _, _, rfl, hb, heap_alloc_new w.drew _, by omega, grownCap_le_maxLen w _ _ _ (by unfold maxLen; omega), ?_, ?_⟩⟩
        · have hz1 : (Value.int IntKind.u8 0).cells.size = 1 := rfl
          simp only [Array.size_append, List.size_toArray, size_zeroCells, hz1, hcl]
          omega
        · rw [Array.toList_append, Array.toList_append, List.append_assoc, List.take_append_of_le_length (by show k * 1 ≤ cur.toList.length; omega)]
          simpa using htk
end Go.Proofs.Yteddlpcnefogpaa
