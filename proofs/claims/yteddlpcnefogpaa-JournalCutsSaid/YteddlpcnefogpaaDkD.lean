/- slices.Delete of a row's end: what is behind place i goes. -/
import Derived.Test.YteddlpcnefogpaaDkC
import Derived.Deep.RegionLaw
import Derived.Shelf.RegionOpenPlain
import Derived.Laws.IdiomCopy
namespace Go.Proofs.Yteddlpcnefogpaa
open Go Go.Proofs Go.RowKit Go.Shelf Go.Lib
set_option maxRecDepth 100000
theorem blk_set {w : World} {b : Nat} {cs : Array Value} {T : TypeId} {fz : Nat × Nat} (h : w.heap[b]? = some (.cells cs T fz)) (j : Nat) (x : Value) : (w.setCell ⟨b, j, none⟩ x).heap[b]? = some (.cells (cs.setIfInBounds j x) T fz) := by
  obtain ⟨hlt, hk⟩ := Array.getElem?_eq_some_iff.1 h
  show (w.heap.modify b _)[b]? = _
  rw [Array.getElem?_eq_getElem (by rw [Array.size_modify]; exact hlt), Array.getElem_modify_self, hk]
  rfl
theorem setCells_grown (g : Nat) : ∀ (vs : List Value) (o : Nat) (w : World), w.grownBy (w.setCells g o vs) (some g)
  | [], _, w => grownBy_refl w _
  | v :: vs, o, w => grownBy_trans (⟨rfl, rfl, rfl, by simp [World.setCell], fun k _ hk => Below.heap_setCell _ _ _ k (fun e => hk (by rw [e]))⟩ : w.grownBy (w.setCell ⟨g, o, none⟩ v) (some g)) (setCells_grown g vs (o + 1) _) (fun g' e => .inl e)
theorem setCells_row (g i : Nat) {e : TypeId} : ∀ (vs : List Value) (o : Nat) (w : World) (cur : Array Value), w.heap[g]? = some (.cells cur e (0, 0)) → i ≤ o →
    ∃ cur', (w.setCells g o vs).heap[g]? = some (.cells cur' e (0, 0)) ∧ cur'.size = cur.size ∧ cur'.toList.take i = cur.toList.take i
  | [], _, w, cur, h, _ => ⟨cur, h, rfl, rfl⟩
  | v :: vs, o, w, cur, h, hi => by
    obtain ⟨cur', h1, h2, h3⟩ := setCells_row g i vs (o + 1) (w.setCell ⟨g, o, none⟩ v) _ (blk_set h o v) (by omega)
    refine ⟨cur', h1, by rw [h2]; simp, ?_⟩
    rw [h3, Array.toList_setIfInBounds, List.take_set_of_le (by omega)]
/-- what Delete answers -/
def CutPost (base i : Nat) (v : Value) (X : List Value) (w : World) (e : Ending) (w' : World) : Prop :=
  ∃ a cap, e = .returned (.slice a i cap) ∧ w'.ownsRow base 5 1 (.slice a i cap) i (X.take i) ∧ w.grownBy w' v.ownBlock ∧ (Value.slice a i cap).ownBlock = v.ownBlock
set_option maxHeartbeats 4000000 in
theorem delete_any (base n i : Nat) (v : Value) (X : List Value) (w : World) (hv : w.ownsRow base 5 1 v n X) (hi : i ≤ n) :
    Calls Try.prog 36 #[v, .int .i64 i, .int .i64 n] w (CutPost base i v X w) := by
  obtain ⟨i0, hi0, hz0, hz1, hz2⟩ := info_parts info_u8
  have hv0 := hv
  have hX : X.length = n := by simpa using hv.1
  obtain ⟨a, cap, rfl, hnc, hcm⟩ : ∃ a cap, v = .slice a n cap ∧ n ≤ cap ∧ cap ≤ 9223372036854775807 := by
    rcases hv.2 with ⟨rfl, h0⟩ | ⟨g, cap, cur, rfl, _, _, h1, h2, _⟩
    · rw [h0]; exact ⟨_, _, rfl, Nat.le_refl _, by omega⟩
    · exact ⟨_, _, rfl, h1, h2⟩
  by_cases heq : i = n
  · subst heq
    have h0 : Calls Try.prog 36 #[.slice a i cap, .int .i64 i, .int .i64 i] w fun e w' => e = .returned (.slice a i cap) ∧ w' = w := by
      clear hv hv0 hX hi
      cases a with
      | none =>
        go_enter Try.func36, Try.ntmps36
        go_wp2
        all_goals (go_ret; exact ⟨rfl, rfl⟩)
      | some b =>
        obtain ⟨b1, b2, b3⟩ := b
        go_enter Try.func36, Try.ntmps36
        go_wp2
        all_goals (go_ret; exact ⟨rfl, rfl⟩)
    refine h0.mono ?_
    rintro e w' ⟨rfl, rfl⟩
    exact ⟨_, _, rfl, by rw [List.take_of_length_le (by omega)]; exact hv0, grownBy_refl _ _, rfl⟩
  · have hlt : i < n := by omega
    obtain ⟨g, cur, rfl, hbg, hg, hcs, htk⟩ : ∃ g cur, a = some ⟨g, 0, none⟩ ∧ base ≤ g ∧ w.heap[g]? = some (.cells cur 5 (0, 0)) ∧ cur.size = cap ∧ cur.toList.take n = X := by
      rcases hv.2 with ⟨_, h0⟩ | ⟨g, cap', cur, q, h1, h2, _, _, h3, h4⟩
      · omega
      · injection q with q1 q2 q3
        subst q3
        exact ⟨g, cur, q1, h1, h2, by simpa using h3, by simpa using h4⟩
    have hcell : ∀ k, k < cap → (w.cell? ⟨g, k, none⟩).isSome = true ∧ w.frozen? ⟨g, k, none⟩ = false := fun k hk => by
      refine ⟨?_, by simp [World.frozen?, hg]⟩
      simp only [World.cell?, hg]
      have : k < cur.size := by omega
      simp [this]
    obtain ⟨A, hA⟩ : ∃ A : Addr, (if cap = n then some (⟨g, 0, none⟩ : Addr) else some ⟨g, n, none⟩) = some A := by
      by_cases h : cap = n
      · exact ⟨_, if_pos h⟩
      · exact ⟨_, if_neg h⟩
    obtain ⟨W1, hW1⟩ : ∃ W1, W1 = w.drew.setCells g (0 + i * 1) [] := ⟨_, rfl⟩
    have hWd : W1 = w.drew := hW1
    have hcl : ∀ ty, (Builtin.clear_ #[22] ty #[.slice (some ⟨g, i, none⟩) (n - i) (cap - i)]).run Try.prog W1 = .ok (.tuple #[]) (W1.setCells g i (List.replicate (n - i) (.int .u8 0))) := fun ty => by
      rw [hWd]
      exact Lib.run_clear_slice w.drew _ _ ty _ Try.underlying22 Try.zeroValue5 rfl rfl g i _ _ (by omega) (fun t ht => (hcell (i + t) (by omega)).1) (fun t ht => (hcell (i + t) (by omega)).2)
    obtain ⟨W2, hW2⟩ : ∃ W2, W2 = W1.setCells g i (List.replicate (n - i) (.int .u8 0)) := ⟨_, rfl⟩
    obtain ⟨cur', q1, q2, q3⟩ := setCells_row g i (List.replicate (n - i) (.int .u8 0)) i w.drew cur hg (Nat.le_refl _)
    have HQ : Hid (CutPost base i (.slice (some ⟨g, 0, none⟩) n cap) X w (.returned (.slice (some ⟨g, 0, none⟩) i cap)) W2) := by
      refine ⟨_, _, rfl, ⟨by simp [hX]; omega, .inr ⟨g, cap, cur', rfl, hbg, by rw [hW2, hWd]; exact q1, by omega, by unfold maxLen; omega, by rw [q2]; simpa using hcs, ?_⟩⟩, ?_, rfl⟩
      · rw [Nat.mul_one, q3, ← htk, List.take_take, Nat.min_eq_left hi]
      · rw [hW2, hWd]
        exact grownBy_trans (⟨rfl, rfl, rfl, Nat.le_refl _, fun _ _ _ => rfl⟩ : w.grownBy w.drew (some g)) (setCells_grown g _ i w.drew) (fun g' e => .inl e)
    rw [← hW2] at hcl
    have hW : Hid (W1 = w.drew.setCells g (0 + i * 1) []) := hW1
    have hci : ¬ cap = i := by omega
    have hs3 : Hid (∀ t, t < ([] : List Value).length → (w.drew.cell? ⟨g, 0 + i * 1 + t, none⟩).isSome = true ∧ w.drew.frozen? ⟨g, 0 + i * 1 + t, none⟩ = false) := fun t ht => absurd ht (Nat.not_lt_zero _)
    have hic : i ≤ cap := by omega
    clear hW1 hWd q1 q2 q3 hW2 htk hcs hg hcell hv hv0 hX heq
    go_enter Try.func36, Try.ntmps36
    go_wp2_with fail
    go_region_law (refine step_append_room rfl (.tmp 22) (.tmp 25) 22 rfl 5 i0 1 Try.underlying22 hi0 hz1 g 0 i cap (by simp [Act.eval, Act.put]) A 0 (cap - n) [] (by simp [Act.eval, Act.put]) rfl (fun j u h => by simp at h) (fun u h => by simp at h) (by omega) hs3.out ?_; rw [← hW.out])
    go_wp2
    go_ret
    exact HQ.out
end Go.Proofs.Yteddlpcnefogpaa
