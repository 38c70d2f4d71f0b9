/- The law on sums: plain lists; what a row's owner keeps. -/
import Derived.Test.YtmggiclikbacjaaDoorLawTwo
namespace Go.Proofs.YtmggiclikbacjaaDoor
open Go Go.Proofs Go.RowKit
set_option maxRecDepth 100000
/-- the first k of l, from place t on, round and round -/
def rot (l : List Int) (t k : Nat) : List Int := (List.range k).map fun i => l.getD ((i + t) % l.length) 0
theorem rot_snoc (l : List Int) (t k : Nat) : rot l t (k + 1) = rot l t k ++ [l.getD ((k + t) % l.length) 0] := by
  unfold rot; rw [List.range_succ, List.map_append]; rfl
theorem rot_len (l : List Int) (t k : Nat) : (rot l t k).length = k := by simp [rot]
theorem sumL_foldl (l : List Int) : ∀ a : Int, l.foldl (· + ·) a = a + sumL l := by
  induction l with
  | nil => intro a; simp [sumL]
  | cons c t ih =>
    intro a
    have h : sumL (c :: t) = (0 + c) + sumL t := ih (0 + c)
    rw [List.foldl_cons, ih, h]; omega
theorem sumL_app (a b : List Int) : sumL (a ++ b) = sumL a + sumL b := by
  unfold sumL; rw [List.foldl_append, sumL_foldl b]; rfl
theorem rot_all (l : List Int) (t : Nat) : rot l t l.length = l.drop (t % l.length) ++ l.take (t % l.length) := by
  rcases Nat.eq_zero_or_pos l.length with h0 | hp
  · have : l = [] := List.eq_nil_of_length_eq_zero h0
    subst this; simp [rot]
  · have hr : t % l.length < l.length := Nat.mod_lt _ hp
    apply List.ext_getElem?
    intro i
    unfold rot
    rw [List.getElem?_map]
    by_cases hi : i < l.length
    · rw [List.getElem?_range hi, Option.map_some, show (i + t) % l.length = (i + t % l.length) % l.length by rw [Nat.add_mod, Nat.mod_eq_of_lt hi]]
      generalize t % l.length = r at *
      rw [List.getElem?_append, List.length_drop]
      by_cases h : i < l.length - r
      · rw [if_pos h, List.getElem?_drop, Nat.mod_eq_of_lt (by omega), List.getElem?_eq_getElem (by omega), List.getD_eq_getElem?_getD, List.getElem?_eq_getElem (by omega)]
        simp [Nat.add_comm]
      · rw [if_neg h, List.getElem?_take_of_lt (by omega), show (i + r) % l.length = i + r - l.length by rw [Nat.mod_eq_sub_mod (by omega), Nat.mod_eq_of_lt (by omega)], List.getD_eq_getElem?_getD, show i - (l.length - r) = i + r - l.length by omega, List.getElem?_eq_getElem (by omega)]
        simp
    · rw [List.getElem?_eq_none (by simp; omega), List.getElem?_eq_none (by simp; omega)]
      rfl
theorem rot_sum (l : List Int) (t : Nat) : sumL (rot l t l.length) = sumL l := by
  have h : sumL l = sumL (l.take (t % l.length)) + sumL (l.drop (t % l.length)) := by rw [← sumL_app, List.take_append_drop]
  rw [rot_all, sumL_app, h]; omega
theorem rot_mem (l : List Int) (t k : Nat) (hp : 0 < l.length) (hd : ∀ c ∈ l, I64 c) : ∀ c ∈ rot l t k, I64 c := by
  intro c hc
  unfold rot at hc
  rw [List.mem_map] at hc
  obtain ⟨i, _, rfl⟩ := hc
  have hm : (i + t) % l.length < l.length := Nat.mod_lt _ hp
  rw [List.getD_eq_getElem?_getD, List.getElem?_eq_getElem hm]
  exact hd _ (List.getElem_mem hm)
theorem At.belowB {w wx : World} {b B : Nat} {l : List Value} (h : At w b l) (hb : Below B w wx) (hl : b < B) : At wx b l :=
  ⟨Nat.lt_of_lt_of_le h.lt hb.size, fun j v hv => (hb.cell (p := ⟨b, j, none⟩) hl).trans (h.cell j v hv), fun j v hv => (hb.frozen (p := ⟨b, j, none⟩) hl).trans (h.free j v hv)⟩
theorem owns_below {w wx : World} {base e size n : Nat} {v : Value} {xs : List Value} (h : w.ownsRow base e size v n xs) (hb : Below w.heap.size w wx) : wx.ownsRow base e size v n xs := by
  refine ⟨h.1, ?_⟩
  rcases h.2 with hn | ⟨g, cap, cur, hv, hg, hgg, rest⟩
  · exact .inl hn
  · refine .inr ⟨g, cap, cur, hv, hg, ?_, rest⟩
    have hlt : g < w.heap.size := by
      rcases Nat.lt_or_ge g w.heap.size with h1 | h1
      · exact h1
      · rw [Array.getElem?_eq_none h1] at hgg; cases hgg
    rw [hb.block g hlt]; exact hgg
theorem At.of_own1 {w : World} {base e n : Nat} {v : Value} {xs : List Value} (h : w.ownsRow base e 1 v n xs) (hn : 0 < n) : ∃ g cap, v = .slice (some ⟨g, 0, none⟩) n cap ∧ g < w.heap.size ∧ (∀ j u, xs[j]? = some u → w.cell? ⟨g, 0 + j, none⟩ = some u) := by
  have h0 := h
  obtain ⟨_, h⟩ := h
  rcases h with ⟨_, h⟩ | ⟨g, cap, cur, hv, hb, hg, hc, _, _, ht⟩
  · omega
  · refine ⟨g, cap, hv, ?_, fun j u hj => ?_⟩
    · rcases Nat.lt_or_ge g w.heap.size with h1 | h1
      · exact h1
      · rw [Array.getElem?_eq_none h1] at hg; cases hg
    · have := h0.cells (g := g) (by rw [hv]; rfl) j u hj
      rw [Addr.add_lit] at this
      exact this
def cellsI (l : List Int) : List Value := l.map fun c => Value.int .i64 c
theorem cellsI_get {l : List Int} {j : Nat} {c : Int} (h : l[j]? = some c) : (cellsI l)[j]? = some (.int .i64 c) := by simp [cellsI, h]
theorem cellsI_snoc (l : List Int) (c : Int) : cellsI l ++ [.int .i64 c] = cellsI (l ++ [c]) := by simp [cellsI]
/-- what a round finds -/
structure SW (w : World) (b5 t : Nat) (l : List Int) (k : Nat) (v : Value) (sh sl : Int) (wr : World) : Prop where
  i : InI sh sl
  eqn : val sh sl = sumL (l.take k)
  box : At wr b5 [.int .i64 sh, .int .u64 sl]
  own : wr.ownsRow (b5 + 1) 2 1 v k (cellsI (rot l t k))
  bel : Below w.heap.size w wr
  ge : w.heap.size ≤ b5
theorem sum_row {wr : World} {base n : Nat} {v : Value} {L : List Int} {sh sl : Int} (h : wr.ownsRow base 2 1 v n (cellsI L)) (hL : L.length = n) (hn : n ≤ 1000) (hd : ∀ c ∈ L, I64 c) (i : InI sh sl) (hv : val sh sl = sumL L) :
    ∀ W, Below wr.heap.size wr W → Calls Tryd.prog 27 #[v] W fun e w' => e = .returned (.agg #[.int .i64 sh, .int .u64 sl]) ∧ Below W.heap.size W w' := by
  intro W hW
  rcases Nat.eq_zero_or_pos n with h0 | hp
  · subst h0
    have hl0 : L = [] := List.eq_nil_of_length_eq_zero hL
    subst hl0
    have hz : sh = 0 ∧ sl = 0 := val_inj i ⟨by omega, by omega, by omega, by omega⟩ (by rw [hv]; rfl)
    rcases h.2 with ⟨rfl, _⟩ | ⟨g, cap, cur, rfl, _, hg, _⟩
    · rw [hz.1, hz.2]; exact Sum_none W
    · have hgl : g < wr.heap.size := by
        rcases Nat.lt_or_ge g wr.heap.size with h1 | h1
        · exact h1
        · rw [Array.getElem?_eq_none h1] at hg; cases hg
      exact Sum_any g 0 0 cap [] rfl (by omega) hd W (Nat.lt_of_lt_of_le hgl hW.size) (fun j c hj => by cases hj) sh sl i hv
  · obtain ⟨g, cap, rfl, hgl, hc⟩ := At.of_own1 h hp
    exact Sum_any g 0 n cap L hL (by omega) hd W (Nat.lt_of_lt_of_le hgl hW.size) (fun j c hj => (hW.cell (p := ⟨g, 0 + j, none⟩) hgl).trans (hc j _ (cellsI_get hj))) sh sl i hv
theorem info_i64 : (Tryd.prog.info? 2).map (fun i => (i.zero, i.size, i.bytes)) = some (some (.int .i64 0), 1, 8) := by kernel_rfl
end Go.Proofs.YtmggiclikbacjaaDoor
