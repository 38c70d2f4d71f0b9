/- A queue's row: a view of a block of the queue's own; what append, clear and a cut do to it. -/
import Derived.Test.YtdgjcahgoilahaaTa
import Derived.Test.YtdgjcahgoilahaaVr
import Derived.Laws.AppendOwn
import Derived.ArgAppend
import Derived.Maps.AppendAt
import Derived.Lib.SliceRun
import Derived.Lib.AppendZeros
import Derived.Laws.Slices
namespace Go.Proofs.Ytdgjcahgoilahaa
open Go Go.Proofs Go.RowKit
set_option maxRecDepth 100000
theorem meas16 {n j : Nat} (h : j < n) : n - (intOf (.int .i64 ((j : Int) + 1))).toNat < n - (intOf (.int .i64 (j : Int))).toNat := by simp [intOf]; omega
/-- the row v holds X in the block o, which is from B on -/
def QRow (E : TypeId) (B : Nat) (w : World) (v : Value) (o : Option Nat) (X : List Value) : Prop :=
  (v = .slice none 0 0 ∧ X = [] ∧ o = none) ∨
  ∃ g off cap cur, v = .slice (some ⟨g, off, none⟩) X.length cap ∧ o = some g ∧ B ≤ g ∧ w.heap[g]? = some (.cells cur E (0, 0)) ∧ X.length ≤ cap ∧ off + cap ≤ cur.size ∧ cap ≤ maxLen ∧ ∀ (j : Nat) (x : Value), X[j]? = some x → cur[off + j]? = some x
/-- from w to w' only the blocks of M may have turned; what M' has beside is new -/
structure To (M M' : List Nat) (w w' : World) : Prop where
  os : w'.os = w.os
  tape : w'.tape = w.tape
  output : w'.output = w.output
  size : w.heap.size ≤ w'.heap.size
  block : ∀ k, k < w.heap.size → k ∉ M → w'.heap[k]? = w.heap[k]?
  new : ∀ k ∈ M', k ∈ M ∨ w.heap.size ≤ k
section
variable {E T : TypeId} {B : Nat} {w w' : World} {v : Value} {o : Option Nat} {X : List Value} {M M' M'' : List Nat}
theorem To.below (h : To M M' w w') (hM : ∀ k ∈ M, B ≤ k) (hB : B ≤ w.heap.size) : Below B w w' :=
  ⟨h.os, h.tape, h.output, h.size, fun k hk => h.block k (by omega) (fun q => by have := hM k q; omega)⟩
theorem To.trans {w2 : World} (h : To M M' w w') (k : To M' M'' w' w2) : To M M'' w w2 :=
  ⟨k.os.trans h.os, k.tape.trans h.tape, k.output.trans h.output, Nat.le_trans h.size k.size, fun i hi hn => (k.block i (Nat.lt_of_lt_of_le hi h.size) (fun q => by
    rcases h.new i q with r | r
    · exact hn r
    · omega)).trans (h.block i hi hn), fun i hi => by
    rcases k.new i hi with r | r
    · exact h.new i r
    · exact .inr (Nat.le_trans h.size r)⟩
theorem To.of_below (h : Below w.heap.size w w') : To M M w w' := ⟨h.os, h.tape, h.output, h.size, fun k hk _ => h.block k hk, fun k hk => .inl hk⟩
theorem To.refl : To M M w w := To.of_below (Below.refl _ _)
theorem QRow.slice (h : QRow E B w v o X) : ∃ a cap, v = .slice a X.length cap := by
  rcases h with ⟨rfl, rfl, _⟩ | ⟨g, off, cap, cur, rfl, _⟩
  · exact ⟨_, _, rfl⟩
  · exact ⟨_, _, rfl⟩
theorem QRow.keep (h : QRow E B w v o X) (e : ∀ g, o = some g → w'.heap[g]? = w.heap[g]?) : QRow E B w' v o X :=
  h.imp id (fun ⟨g, off, cap, cur, h1, h2, h3, h4, h5⟩ => ⟨g, off, cap, cur, h1, h2, h3, (e g h2).trans h4, h5⟩)
theorem QRow.lt (h : QRow E B w v o X) {g : Nat} (e : o = some g) : B ≤ g ∧ g < w.heap.size ∧ ∃ cur, w.heap[g]? = some (.cells cur E (0, 0)) := by
  rcases h with ⟨_, _, h⟩ | ⟨g', off, cap, cur, _, h, hb, h4, _⟩
  · rw [h] at e; cases e
  · rw [h] at e
    injection e with e
    subst e
    exact ⟨hb, (Array.getElem?_eq_some_iff.1 h4).1, _, h4⟩
theorem QRow.cons {x : Value} {t : List Value} (h : QRow E B w v o (x :: t)) : ∃ g off cap, v = .slice (some ⟨g, off, none⟩) (t.length + 1) cap ∧ o = some g ∧ B ≤ g ∧ t.length + 1 ≤ cap ∧ w.cell? ⟨g, off, none⟩ = some x ∧ w.frozen? ⟨g, off, none⟩ = false := by
  rcases h with ⟨_, h, _⟩ | ⟨g, off, cap, cur, h1, h2, h3, h4, h5, h6, h7, h8⟩
  · cases h
  · refine ⟨g, off, cap, h1, h2, h3, h5, ?_, frozen_of_row w g off _ _ h4⟩
    rw [cell_of_row w g off _ _ _ h4]
    exact h8 0 x rfl
theorem QRow.cell (h : QRow E B w v o X) {g off cap : Nat} (hv : v = .slice (some ⟨g, off, none⟩) X.length cap) {j : Nat} {x : Value} (hx : X[j]? = some x) : w.cell? ⟨g, off + j, none⟩ = some x := by
  rcases h with ⟨_, h, _⟩ | ⟨g', off', cap', cur, h1, h2, h3, h4, h5, h6, h7, h8⟩
  · rw [h] at hx; cases hx
  · rw [hv] at h1
    injection h1 with e1 e2 e3
    injection e1 with e1
    injection e1 with e1 e4
    subst e1 e4
    rw [cell_of_row w g _ _ _ _ h4]
    exact h8 j x hx
theorem own_some1 {n : Nat} {xs : List Value} (h : w.ownsRow B E 1 v n xs) (hn : 0 < n) : ∃ g cap, v = .slice (some ⟨g, 0, none⟩) n cap := by
  rcases h.2 with ⟨_, h0⟩ | ⟨g, cap, cur, hv, _⟩
  · omega
  · exact ⟨g, cap, hv⟩
/-- a row of the call's own is such a row -/
theorem QRow.of_own {n : Nat} (h : w.ownsRow B E 1 v n X) : ∃ o, QRow E B w v o X ∧ o = v.ownBlock := by
  have hl : X.length = n := by simpa using h.1
  rcases h.2 with ⟨rfl, h0⟩ | ⟨g, cap, cur, rfl, hb, hg, hn, hm, hs, ht⟩
  · exact ⟨none, .inl ⟨rfl, List.eq_nil_of_length_eq_zero (by omega), rfl⟩, rfl⟩
  · subst hl
    refine ⟨some g, .inr ⟨g, 0, cap, cur, rfl, rfl, hb, hg, hn, by omega, hm, fun j x hx => ?_⟩, rfl⟩
    have hlt := (List.getElem?_eq_some_iff.1 hx).1
    rw [← ht, List.getElem?_take_of_lt (by omega)] at hx
    rw [Nat.zero_add]
    simpa using hx
/-- one more is appended -/
theorem QRow.append {P : Program} {i : TypeInfo} {z : Value} {bytes : Nat} {t : TypeId} (h : QRow E B w v o X) (ht : P.underlying t = some (.slice E)) (hi : P.info? E = some i) (hz : i.zero = some z) (hsize : i.size = 1) (hby : i.bytes = bytes) (hzs : z.cells.size = 1) (hby2 : bytes ≤ 16)
    {x : Value} (hx1 : x.oneCell' = true) {a : Nat} {c : Nat} (hx : w.cell? ⟨a, 0, none⟩ = some x) (hn : X.length + 1 ≤ 1099511627776) (hB : B ≤ w.heap.size) :
    ∃ v' o' w', (∀ ty, (Builtin.append_ #[t, t] ty #[v, .slice (some ⟨a, 0, none⟩) 1 c]).run P w = .ok v' w') ∧ QRow E B w' v' o' (X ++ [x]) ∧ To o.toList o'.toList w w' := by
  have hnews : ∀ j u, [x][j]? = some u → w.cell? ((⟨a, 0, none⟩ : Addr).add j) = some u := by
    intro j u hj
    rcases j with _ | j
    · injection hj with hj; subst hj; simpa [Addr.add] using hx
    · cases hj
  have h1 : ∀ u ∈ [x], u.oneCell' = true := by intro u hu; simp at hu; subst hu; exact hx1
  have hby3 : (X.length + 1) * bytes ≤ 140737488355328 := Nat.le_trans (Nat.mul_le_mul hn hby2) (by omega)
  rcases h with ⟨rfl, rfl, rfl⟩ | ⟨g, off, cap, cur, rfl, rfl, hb, hg, hle, hsz, hm, hc⟩
  · have key := fun ty => run_append_own_at (P := P) w w.heap.size t ty E i z 1 bytes ht hi hz hsize hby hzs (by omega) (.slice none 0 0) 0 [] (World.ownsRow_nil _ _ _ _) ⟨a, 0, none⟩ 1 c [x] rfl hnews h1 (by unfold maxLen; omega) (by simpa using Nat.le_trans (Nat.mul_le_mul (Nat.le_refl 1) hby2) (by omega)) (Nat.le_refl _)
    obtain ⟨v', w', hr, h2, h3, _, h5⟩ := key 0
    have hr' : ∀ ty, (Builtin.append_ #[t, t] ty #[.slice none 0 0, .slice (some ⟨a, 0, none⟩) 1 c]).run P w = .ok v' w' := fun ty => hr
    obtain ⟨o', hq, ho⟩ := QRow.of_own (h2)
    refine ⟨v', o', w', hr', ?_, ⟨h3.os, h3.tape, h3.output, h3.size, fun k hk _ => h3.block k hk (by simp [Value.ownBlock]), fun k hk => ?_⟩⟩
    · rcases hq with q | ⟨g, off, cap, cur, q1, q2, q3, q4⟩
      · exact .inl q
      · exact .inr ⟨g, off, cap, cur, q1, q2, by omega, q4⟩
    · have hk : o' = some k := by cases o' <;> simp at hk ⊢; exact hk.symm
      exact .inr (hq.lt hk).1
  · by_cases hroom : X.length + 1 ≤ cap
    · have hcur : off + X.length < cur.size := by omega
      have hcell : ∀ j, j < [x].length → (w.cell? ⟨g, off + X.length * i.size + j, none⟩).isSome = true := by
        intro j hj
        obtain rfl : j = 0 := by simpa using hj
        rw [hsize, cell_of_row w g _ _ _ _ hg, Nat.mul_one, Nat.add_zero, Array.getElem?_eq_getElem hcur]
        rfl
      have hr := fun ty => run_append_room_cells (P := P) w t ty E i ht hi g off X.length cap ⟨a, 0, none⟩ 1 c [x] (by rw [hsize]; rfl) hnews h1 hroom hcell (fun j _ => frozen_of_row w g _ _ _ hg)
      have e : w.setCells g (off + X.length * i.size) [x] = w.setCell ⟨g, off + X.length, none⟩ x := by rw [hsize, Nat.mul_one]; rfl
      rw [e] at hr
      refine ⟨_, some g, _, hr, .inr ⟨g, off, cap, cur.setIfInBounds (off + X.length) x, by simp, rfl, hb, heap_setCell_same w g _ _ _ _ hg, by simpa using hroom, by simpa using hsz, hm, fun j y hy => ?_⟩, ⟨rfl, rfl, rfl, by simp [World.setCell], fun k _ hk => Below.heap_setCell _ _ _ k (fun q => hk (by rw [q]; simp)), fun k hk => .inl hk⟩⟩
      rw [Array.getElem?_setIfInBounds]
      by_cases hj : j = X.length
      · subst hj
        rw [if_pos rfl, if_pos hcur]
        simpa using hy
      · rw [if_neg (by omega)]
        have hjl : j < X.length + 1 := by have := (List.getElem?_eq_some_iff.1 hy).1; simpa using this
        rw [List.getElem?_append_left (by omega)] at hy
        exact hc j y hy
    · have holds : ∀ j u, X[j]? = some u → w.cell? ((⟨g, off, none⟩ : Addr).add j) = some u := fun j u hu => by
        rw [Addr.add_lit, cell_of_row w g _ _ _ _ hg]; exact hc j u hu
      have key := fun ty => run_append_arg_grows (P := P) w t ty E i z 1 bytes ht hi hz hsize hby hzs (by omega) ⟨g, off, none⟩ X.length cap X (by simp) holds ⟨a, 0, none⟩ 1 c [x] rfl hnews (by omega) (by unfold maxLen; omega) hby3
      obtain ⟨v', w', hr, h2, h3⟩ := key 0
      have hr' : ∀ ty, (Builtin.append_ #[t, t] ty #[.slice (some ⟨g, off, none⟩) X.length cap, .slice (some ⟨a, 0, none⟩) 1 c]).run P w = .ok v' w' := fun ty => hr
      obtain ⟨o', hq, ho⟩ := QRow.of_own h2
      refine ⟨v', o', w', hr', ?_, ⟨h3.os, h3.tape, h3.output, h3.size, fun k hk _ => h3.block k hk (by simp), fun k hk => ?_⟩⟩
      · rcases hq with q | ⟨g, off, cap, cur, q1, q2, q3, q4⟩
        · exact .inl q
        · exact .inr ⟨g, off, cap, cur, q1, q2, by omega, q4⟩
      · have hk : o' = some k := by cases o' <;> simp at hk ⊢; exact hk.symm
        exact .inr (hq.lt hk).1
/-- the eldest is cleared and cut off -/
theorem QRow.take {x z : Value} {t : List Value} {g off cap : Nat} (h : QRow E B w v o (x :: t)) (hv : v = .slice (some ⟨g, off, none⟩) (t.length + 1) cap) :
    QRow E B (w.setCell ⟨g, off, none⟩ z) (.slice (if cap = 1 then some ⟨g, off, none⟩ else some ⟨g, off + 1, none⟩) t.length (cap - 1)) (some g) t := by
  rcases h with ⟨_, h, _⟩ | ⟨g', off', cap', cur, h1, h2, h3, h4, h5, h6, h7, h8⟩
  · cases h
  · rw [hv] at h1
    injection h1 with e1 e2 e3
    injection e1 with e1
    injection e1 with e1 e4
    subst e1 e4 e3
    simp only [List.length_cons] at h5
    by_cases hc : cap = 1
    · subst hc
      obtain rfl : t = [] := List.eq_nil_of_length_eq_zero (by omega)
      rw [if_pos rfl]
      exact .inr ⟨g, off, 0, _, rfl, rfl, h3, heap_setCell_same w g off _ _ _ h4, by simp, by rw [Array.size_setIfInBounds]; omega, by omega, fun j y hy => by simp at hy⟩
    · rw [if_neg hc]
      refine .inr ⟨g, off + 1, cap - 1, _, rfl, rfl, h3, heap_setCell_same w g off _ _ _ h4, by omega, by rw [Array.size_setIfInBounds]; omega, by omega, fun j y hy => ?_⟩
      rw [Array.getElem?_setIfInBounds, if_neg (by omega), show off + 1 + j = off + (j + 1) by omega]
      exact h8 (j + 1) y (by simpa using hy)
end

/-- a queue in memory: at b, its row v in the block o -/
structure QA (Q E : TypeId) (B : Nat) (w : World) (b most : Nat) (v : Value) (o : Option Nat) (X : List Value) : Prop where
  ge : B ≤ b
  blk : w.heap[b]? = some (.cells #[.int .i64 (most : Int), v] Q (0, 0))
  row : QRow E B w v o X
  few : X.length ≤ most
  most : most ≤ 1024
section
variable {Q E : TypeId} {B b most : Nat} {w w' : World} {v : Value} {o : Option Nat} {X : List Value}
theorem QA.lt (h : QA Q E B w b most v o X) : b < w.heap.size := (Array.getElem?_eq_some_iff.1 h.blk).1
theorem QA.at (h : QA Q E B w b most v o X) : At w b [.int .i64 (most : Int), v] := At.of_block h.blk
theorem QA.keep (h : QA Q E B w b most v o X) (e : ∀ g, g ∈ b :: o.toList → w'.heap[g]? = w.heap[g]?) : QA Q E B w' b most v o X :=
  ⟨h.ge, (e b (by simp)).trans h.blk, h.row.keep (fun g hg => e g (by simp [hg])), h.few, h.most⟩
theorem QA.foot (h : QA Q E B w b most v o X) : ∀ k ∈ b :: o.toList, B ≤ k ∧ k < w.heap.size := by
  intro k hk
  rcases List.mem_cons.1 hk with rfl | hk
  · exact ⟨h.ge, h.lt⟩
  · have e : o = some k := by cases o <;> simp at hk ⊢; exact hk.symm
    exact ⟨(h.row.lt e).1, (h.row.lt e).2.1⟩
theorem QA.below (h : QA Q E B w b most v o X) (hb : Below w.heap.size w w') : QA Q E B w' b most v o X := h.keep (fun g hg => hb.block g (h.foot g hg).2)
theorem QA.drew (h : QA Q E B w b most v o X) : QA Q E B w.drew b most v o X := h.keep (fun _ _ => rfl)
theorem QA.ne (h : QA Q E B w b most v o X) (hT : Q ≠ E) : o ≠ some b := fun e => by
  obtain ⟨_, _, cur, hc⟩ := h.row.lt e
  rw [h.blk] at hc
  injection hc with hc
  injection hc with _ hc _
  exact hT hc
theorem QA.grown (h : QA Q E B w b most v o X) {M M' : List Nat} (t : To M M' w w') (hd : ∀ k ∈ b :: o.toList, k ∉ M) : QA Q E B w' b most v o X := h.keep (fun g hg => t.block g (h.foot g hg).2 (hd g hg))
theorem QA.to_below (h : QA Q E B w b most v o X) {M' : List Nat} (t : To (b :: o.toList) M' w w') : Below B w w' := t.below (fun k hk => (h.foot k hk).1) (Nat.le_of_lt (Nat.lt_of_le_of_lt h.ge h.lt))
/-- a queue's row turned, and its struct's second cell -/
theorem QA.put {w1 : World} {v' : Value} {o' : Option Nat} {X' : List Value} (h : QA Q E B w b most v o X) (hT : Q ≠ E) (hr : QRow E B w1 v' o' X') (t : To o.toList o'.toList w w1) (hx : X'.length ≤ most) :
    QA Q E B (w1.setCell ⟨b, 1, none⟩ v') b most v' o' X' ∧ To (b :: o.toList) (b :: o'.toList) w (w1.setCell ⟨b, 1, none⟩ v') := by
  have hne := h.ne hT
  have hb1 : w1.heap[b]? = some (.cells #[.int .i64 (most : Int), v] Q (0, 0)) := (t.block b h.lt (fun q => hne (by cases o <;> simp at q ⊢; exact q.symm))).trans h.blk
  have hne' : ∀ g, o' = some g → g ≠ b := fun g e q => by
    subst q
    obtain ⟨_, _, cur, hc⟩ := hr.lt e
    rw [hb1] at hc
    injection hc with hc
    injection hc with _ hc _
    exact hT hc
  refine ⟨⟨h.ge, ?_, hr.keep (fun g e => Below.heap_setCell _ _ _ g (hne' g e)), hx, h.most⟩, ⟨t.os, t.tape, t.output, by have := t.size; simpa [World.setCell] using this, fun k hk hn => ?_, fun k hk => ?_⟩⟩
  · exact heap_setCell_same w1 b 1 _ _ _ hb1
  · exact (Below.heap_setCell _ _ _ k (fun q => hn (by rw [q]; simp))).trans (t.block k hk (fun q => hn (by simp [q])))
  · rcases List.mem_cons.1 hk with rfl | hk
    · exact .inl (by simp)
    · rcases t.new k hk with q | q
      · exact .inl (by simp [q])
      · exact .inr q
end
end Go.Proofs.Ytdgjcahgoilahaa
