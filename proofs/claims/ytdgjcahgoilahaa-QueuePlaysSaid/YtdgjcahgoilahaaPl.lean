/- QueuePlays: what lies at a round's head: the queue, the law's own row. -/
import Derived.Test.YtdgjcahgoilahaaQk
import Derived.Test.YtdgjcahgoilahaaBl
import Derived.Deep.Upon
namespace Go.Proofs.Ytdgjcahgoilahaa
open Go Go.Proofs Go.RowKit Go.Shelf
set_option maxRecDepth 100000
section
variable {E : TypeId} {B : Nat} {w : World} {v : Value} {o : Option Nat} {X : List Value}
theorem QRow.foot (h : QRow E B w v o X) : ∀ k ∈ o.toList, B ≤ k ∧ k < w.heap.size := by
  intro k hk
  have e : o = some k := by cases o <;> simp at hk ⊢; exact hk.symm
  exact ⟨(h.lt e).1, (h.lt e).2.1⟩
theorem QRow.cut {x : Value} {t : List Value} {g off cap : Nat} (h : QRow E B w v o (x :: t)) (hv : v = .slice (some ⟨g, off, none⟩) (t.length + 1) cap) :
    QRow E B w (.slice (if cap = 1 then some ⟨g, off, none⟩ else some ⟨g, off + 1, none⟩) t.length (cap - 1)) (some g) t := by
  rcases h with ⟨_, h, _⟩ | ⟨g', off', cap', cur, h1, h2, h3, h4, h5, h6, h7, h8⟩
  · cases h
  · rw [hv] at h1
    injection h1 with e1 e2 e3
    injection e1 with e1
    injection e1 with e1 e4
    subst e1 e4 e3
    simp only [List.length_cons] at h5
    by_cases hc : cap = 1
    · subst hc
      obtain rfl : t = [] := List.eq_nil_of_length_eq_zero (by omega)
      rw [if_pos rfl]
      exact .inr ⟨g, off, 0, cur, rfl, rfl, h3, h4, by simp, by omega, by omega, fun j y hy => by simp at hy⟩
    · rw [if_neg hc]
      refine .inr ⟨g, off + 1, cap - 1, cur, rfl, rfl, h3, h4, by omega, by omega, by omega, fun j y hy => ?_⟩
      rw [show off + 1 + j = off + (j + 1) by omega]
      exact h8 (j + 1) y (by simpa using hy)
/-- a copy of a row: append([]T{}, row...) -/
theorem QRow.onto {P : Program} {i : TypeInfo} {z : Value} {bytes C hb : Nat} {t : TypeId} (hd : QRow E C w (.slice (some ⟨hb, 0, none⟩) 0 0) (some hb) []) (h : QRow E B w v o X) (ht : P.underlying t = some (.slice E)) (hi : P.info? E = some i) (hz : i.zero = some z) (hsize : i.size = 1) (hby : i.bytes = bytes) (hzs : z.cells.size = 1) (hby2 : bytes ≤ 16)
    (hn : X.length ≤ 1099511627776) (hC : C ≤ w.heap.size) :
    ∃ v' o' w', (∀ ty, (Builtin.append_ #[t, t] ty #[.slice (some ⟨hb, 0, none⟩) 0 0, v]).run P w = .ok v' w') ∧ QRow E C w' v' o' X ∧ Below w.heap.size w w' ∧ o' ≠ none := by
  by_cases hx : X = []
  · subst hx
    obtain ⟨a, cap, rfl⟩ := h.slice
    refine ⟨_, some hb, w, fun ty => run_append_nothing w t t ty E i ht hi _ 0 0 (Nat.le_refl _) _ ?_, hd, Below.refl _ _, by simp⟩
    cases a with
    | none => 
      rcases h with ⟨q, _⟩ | ⟨g, off, cap', cur, q, _⟩
      · injection q with _ _ q3
        subst q3
        exact Src.ofNil _ ht 0
      · cases q
    | some ad => exact Src.ofSlice _ ht ad 0 cap [] (by simp) (fun j u hj => by simp at hj) (fun u hu => by simp at hu)
  · have hX : 0 < X.length := by cases X with | nil => exact absurd rfl hx | cons _ _ => simp
    rcases h with ⟨_, h, _⟩ | ⟨g, off, cap, cur, rfl, rfl, h3, h4, h5, h6, h7, h8⟩
    · exact absurd h hx
    · have hcell : ∀ j u, X[j]? = some u → w.cell? ((⟨g, off, none⟩ : Addr).add j) = some u := fun j u hu => by
        rw [Addr.add_lit, cell_of_row w g _ _ _ _ h4]; exact h8 j u hu
      have hby3 : (0 + X.length) * bytes ≤ 140737488355328 := Nat.le_trans (Nat.mul_le_mul (show 0 + X.length ≤ 1099511627776 by omega) hby2) (by omega)
      have key := fun ty => run_append_arg_grows (P := P) w t ty E i z 1 bytes ht hi hz hsize hby hzs (by omega) ⟨hb, 0, none⟩ 0 0 [] rfl (fun j u hj => by simp at hj) ⟨g, off, none⟩ X.length cap X (by simp) hcell (by omega) (by unfold maxLen; omega) hby3
      obtain ⟨v', w', hr, h2, hg⟩ := key 0
      have hr' : ∀ ty, (Builtin.append_ #[t, t] ty #[.slice (some ⟨hb, 0, none⟩) 0 0, .slice (some ⟨g, off, none⟩) X.length cap]).run P w = .ok v' w' := fun ty => hr
      rw [List.nil_append] at h2
      obtain ⟨o', hq, ho⟩ := QRow.of_own h2
      refine ⟨v', o', w', hr', ?_, ⟨hg.os, hg.tape, hg.output, hg.size, fun k hk => hg.block k hk (by simp)⟩, ?_⟩
      · rcases hq with q | ⟨g, off, cap, cur, q1, q2, q3, q4⟩
        · exact .inl q
        · exact .inr ⟨g, off, cap, cur, q1, q2, by omega, q4⟩
      · rcases hq with ⟨_, q, _⟩ | ⟨g, off, cap, cur, q1, q2, q3, q4⟩
        · exact absurd q hx
        · rw [q2]; simp
end
/-- the queue holds X, the law's row Y -/
structure PlS (B b most : Nat) (w : World) (v : Value) (o : Option Nat) (X : List (List UInt8)) (lv : Value) (p : Option Nat) (Y : List (List UInt8)) : Prop where
  Q : QAS B w b most v o X
  R : QRow 9 B w lv p (Y.map qES)
  ne : ∀ k ∈ p.toList, k ∉ b :: o.toList
section
variable {B b most : Nat} {w w' : World} {v lv : Value} {o p : Option Nat} {X Y : List (List UInt8)}
theorem PlS.below (h : PlS B b most w v o X lv p Y) (hb : Below w.heap.size w w') : PlS B b most w' v o X lv p Y := ⟨h.Q.below hb, h.R.keep (fun g e => hb.block g (h.R.lt e).2.1), h.ne⟩
theorem PlS.putQ (h : PlS B b most w v o X lv p Y) {v' : Value} {o' : Option Nat} {X' : List (List UInt8)} (hQ : QAS B w' b most v' o' X') (t : To (b :: o.toList) (b :: o'.toList) w w') : PlS B b most w' v' o' X' lv p Y ∧ Below B w w' :=
  ⟨⟨hQ, h.R.keep (fun g e => t.block g (h.R.lt e).2.1 (h.ne g (by rw [e]; simp))), fun k hk hm => by
    rcases t.new k hm with q | q
    · exact h.ne k hk q
    · have := (h.R.foot k hk).2; omega⟩, h.Q.to_below t⟩
theorem PlS.newR (h : PlS B b most w v o X lv p Y) {lv' : Value} {p' : Option Nat} {Y' : List (List UInt8)} (hb : Below w.heap.size w w') (hR : QRow 9 w.heap.size w' lv' p' (Y'.map qES)) : PlS B b most w' v o X lv' p' Y' :=
  ⟨h.Q.below hb, by
    have hB : B ≤ w.heap.size := by have := h.Q.lt; have := h.Q.ge; omega
    rcases hR with q | ⟨g, off, cap, cur, q1, q2, q3, q4⟩
    · exact .inl q
    · exact .inr ⟨g, off, cap, cur, q1, q2, by omega, q4⟩, fun k hk hm => by have := (hR.foot k hk).1; have := (h.Q.foot k hm).2; omega⟩
theorem PlS.nilR (h : PlS B b most w v o X lv p Y) : PlS B b most w v o X (.slice none 0 0) none [] := ⟨h.Q, .inl ⟨rfl, rfl, rfl⟩, by simp⟩
theorem PlS.cut {x : List UInt8} {t : List (List UInt8)} {g off cap : Nat} (h : PlS B b most w v o X (.slice (some ⟨g, off, none⟩) (t.length + 1) cap) p (x :: t)) : PlS B b most w v o X (.slice (if cap = 1 then some ⟨g, off, none⟩ else some ⟨g, off + 1, none⟩) t.length (cap - 1)) (some g) t := by
  have hc := QRow.cut h.R (g := g) (off := off) (cap := cap) (by rw [List.length_map])
  rw [List.length_map] at hc
  refine ⟨h.Q, hc, ?_⟩
  obtain ⟨g', off', cap', e, ho, _⟩ := h.R.cons
  injection e with e1 _ _
  injection e1 with e1
  injection e1 with e1 _
  subst e1
  rw [← ho]
  exact h.ne
theorem PlS.put_ok (h : PlS B b most w v o X lv p Y) (x : List UInt8) (hl : X.length < most) : Calls Try.prog 8 #[.pointer (some ⟨b, 0, none⟩), .string ⟨x.toArray⟩] w fun e w' => ∃ v' o', e = .returned (.int .i64 0) ∧ PlS B b most w' v' o' (X ++ [x]) lv p Y ∧ Below B w w' :=
  (putS_any x h.Q).mono (by
    rintro e w2 ⟨v', o', X', rfl, rfl, hQ, hto⟩
    rw [if_pos hl] at hQ ⊢
    exact ⟨v', o', rfl, h.putQ hQ hto⟩)
theorem PlS.put_no (h : PlS B b most w v o X lv p Y) (x : List UInt8) (hl : ¬ X.length < most) : Calls Try.prog 8 #[.pointer (some ⟨b, 0, none⟩), .string ⟨x.toArray⟩] w fun e w' => ∃ v' o', e = .returned (.int .i64 11) ∧ PlS B b most w' v' o' X lv p Y ∧ Below B w w' :=
  (putS_any x h.Q).mono (by
    rintro e w2 ⟨v', o', X', rfl, rfl, hQ, hto⟩
    rw [if_neg hl] at hQ ⊢
    exact ⟨v', o', rfl, h.putQ hQ hto⟩)
theorem PlS.take_some {x : List UInt8} {t : List (List UInt8)} (h : PlS B b most w v o (x :: t) lv p Y) : Calls Try.prog 9 #[.pointer (some ⟨b, 0, none⟩)] w fun e w' => ∃ v' o', e = .returned (.tuple #[.string ⟨x.toArray⟩, .bool true]) ∧ PlS B b most w' v' o' t lv p Y ∧ Below B w w' :=
  (takeS_any h.Q).mono (by
    rintro e w2 ⟨v', o', rfl, hQ, hto⟩
    exact ⟨v', o', rfl, h.putQ hQ hto⟩)
theorem PlS.take_none (h : PlS B b most w v o [] lv p Y) : Calls Try.prog 9 #[.pointer (some ⟨b, 0, none⟩)] w fun e w' => ∃ v' o', e = .returned (.tuple #[.string ⟨#[]⟩, .bool false]) ∧ PlS B b most w' v' o' [] lv p Y ∧ Below B w w' :=
  (takeS_any h.Q).mono (by
    rintro e w2 ⟨v', o', rfl, hQ, hto⟩
    exact ⟨v', o', rfl, h.putQ hQ hto⟩)
theorem PlS.clear (h : PlS B b most w v o X lv p Y) : Calls Try.prog 10 #[.pointer (some ⟨b, 0, none⟩)] w fun e w' => ∃ v' o', e = .returned (.int .i64 (X.length : Int)) ∧ PlS B b most w' v' o' [] lv p Y ∧ Below B w w' :=
  (clearS_any h.Q).mono (by
    rintro e w2 ⟨rfl, v', o', hQ, hto⟩
    exact ⟨v', o', rfl, h.putQ hQ hto⟩)
theorem PlS.slice (h : PlS B b most w v o X lv p Y) : ∃ a cap, lv = .slice a Y.length cap := by
  obtain ⟨a, cap, e⟩ := h.R.slice
  rw [List.length_map] at e
  exact ⟨a, cap, e⟩
/-- the row's cells, in every world behind -/
theorem PlS.cell {la : Option Addr} {n lc : Nat} (h : PlS B b most w v o X (.slice la n lc) p Y) {j : Nat} {x : List UInt8} (hx : Y[j]? = some x) : ∃ g off, la = some ⟨g, off, none⟩ ∧ ∀ W, Below w.heap.size w W → W.cell? ⟨g, off + j, none⟩ = some (.string ⟨x.toArray⟩) := by
  rcases h.R with ⟨_, q, _⟩ | ⟨g, off, cap, cur, q1, q2, q3, q4, q5⟩
  · rw [List.map_eq_nil_iff] at q; rw [q] at hx; cases hx
  · injection q1 with e1 _ _
    refine ⟨g, off, e1, fun W hW => ?_⟩
    have hg := (Array.getElem?_eq_some_iff.1 q4).1
    refine (hW.cell (p := ⟨g, off + j, none⟩) hg).trans ?_
    rw [cell_of_row w g _ _ _ _ q4]
    exact q5.2.2.2 j _ (by rw [List.getElem?_map, hx]; rfl)
/-- the law's row copied into a fresh one -/
theorem PlS.copy {la : Option Addr} {lc hb : Nat} {u : World} (h : PlS B b most w v o X (.slice la Y.length lc) p Y) (hu : Below w.heap.size w u) (hh : u.heap[hb]? = some (.cells #[] 9 (0, 0))) (hge : w.heap.size ≤ hb) (hn : Y.length ≤ 1000) :
    ∃ v' o' w', (∀ ty, (Builtin.append_ #[28, 28] ty #[.slice (some ⟨hb, 0, none⟩) 0 0, .slice la Y.length lc]).run Try.prog u = .ok v' w') ∧ QRow 9 w.heap.size w' v' o' (Y.map qES) ∧ Below u.heap.size u w' := by
  obtain ⟨i0, hi, hz0, hz1, hz2⟩ := info_parts infoS
  have hd : QRow 9 w.heap.size u (.slice (some ⟨hb, 0, none⟩) 0 0) (some hb) [] := .inr ⟨hb, 0, 0, #[], rfl, rfl, hge, hh, Nat.le_refl _, by simp, by simp, fun j x hx => by simp at hx⟩
  obtain ⟨v', o', w', hr, hq, hb', _⟩ := QRow.onto (P := Try.prog) hd (h.below hu).R Try.underlying28 hi hz0 hz1 hz2 rfl (by decide) (by rw [List.length_map]; omega) hu.size
  exact ⟨v', o', w', hr, hq, hb'⟩
/-- one more behind it -/
theorem row_more {C c : Nat} {u : World} {v' : Value} {o' : Option Nat} (hq : QRow 9 C u v' o' (Y.map qES)) (s : List UInt8) (hc : u.cell? ⟨c, 0, none⟩ = some (.string ⟨s.toArray⟩)) (hn : Y.length ≤ 1000) (hC : C ≤ u.heap.size) :
    ∃ Z l2 c2 o2 w2, Hid (Z = Y ++ [s]) ∧ (∀ ty, (Builtin.append_ #[28, 28] ty #[v', .slice (some ⟨c, 0, none⟩) 1 1]).run Try.prog u = .ok (.slice l2 Z.length c2) w2) ∧ QRow 9 C w2 (.slice l2 Z.length c2) o2 (Z.map qES) ∧ Below C u w2 := by
  obtain ⟨i0, hi, hz0, hz1, hz2⟩ := info_parts infoS
  obtain ⟨v2, o2, w2, hr, hq2, hto⟩ := QRow.append (P := Try.prog) hq Try.underlying28 hi hz0 hz1 hz2 rfl (by decide) (x := qES s) rfl (c := 1) hc (by rw [List.length_map]; omega) hC
  rw [show Y.map qES ++ [qES s] = (Y ++ [s]).map qES by simp] at hq2
  obtain ⟨l2, c2, e⟩ := hq2.slice
  rw [List.length_map] at e
  subst e
  exact ⟨_, l2, c2, o2, w2, (rfl : _ = _), hr, hq2, hto.below (fun k hk => (hq.foot k hk).1) hC⟩
end
end Go.Proofs.Ytdgjcahgoilahaa
