/- disk.behind: bytes behind a row that the call owns. -/
import Derived.Test.YteddlpcnefogpaaDkB
import Derived.OneCell
import Derived.Maps.AppendAt
namespace Go.Proofs.Yteddlpcnefogpaa
open Go Go.Proofs Go.RowKit Go.Shelf
set_option maxRecDepth 100000
attribute [local go_sem] Oper.semAt_some
theorem row_own {β : Type} (base e size : Nat) (V : β → Value) (N : β → Nat) (X : β → List Value) : Own (fun s W => W.ownsRow base e size (V s) (N s) (X s)) := by
  rintro s A B row hr hg hrow
  refine hr.kept hg ?_
  rcases hr.2 with ⟨hv, _⟩ | ⟨g, cap, cur, hv, _, hgb, _⟩
  · rw [hv]; exact .inl rfl
  · rw [hv]
    refine .inr fun e' => ?_
    obtain ⟨o, ho, hc⟩ := hrow g (by simpa [Value.ownBlock] using e'.symm)
    rw [hgb] at ho; cases ho; cases hc
theorem grown_own {β : Type} {w : World} {B : Nat} (hB : w.heap.size ≤ B) (r : Option Nat) : OwnFrom B (fun (_ : β) W => w.grownBy W r) :=
  fun _ _ _ _ hs hg hr => grownBy_trans hs hg (fun g e => .inr (Nat.le_trans hB (hr g e).1))
theorem bcells_snoc (l : List UInt8) (x : UInt8) : Lib.byteCells (l ++ [x]) = Lib.byteCells l ++ [byV x] := by simp [Lib.byteCells]
/-- what behind answers: a row of all the bytes; only the old row's block may have been written -/
def BehindPost (base : Nat) (v : Value) (Z : List UInt8) (w : World) (e : Ending) (w' : World) : Prop :=
  ∃ v', e = .returned v' ∧ (∃ a cap, v' = .slice a Z.length cap) ∧ w'.ownsRow base 5 1 v' Z.length (Lib.byteCells Z) ∧ w.grownBy w' v.ownBlock ∧ ∀ g, v'.ownBlock = some g → v.ownBlock = some g ∨ w.heap.size ≤ g
set_option maxHeartbeats 4000000 in
theorem behind_any (base : Nat) (v bv : Value) (X zs : List UInt8) (w : World) (hv : w.ownsRow base 5 1 v X.length (Lib.byteCells X)) (hI : Bys w bv zs) (hz : zs ≠ [] → ∀ b, bv.ownBlock = some b → v.ownBlock ≠ some b) (hbig : X.length + zs.length ≤ 1099511627776) (hb : base ≤ w.heap.size) :
    Calls Try.prog 28 #[v, bv] w (BehindPost base v (X ++ zs) w) := by
  have hlen : ∃ a cap, bv = .slice a zs.length cap := by
    rcases hI with ⟨⟨a, c, rfl⟩, rfl⟩ | ⟨b, off, cap, rfl, _⟩
    · exact ⟨_, _, rfl⟩
    · exact ⟨_, _, rfl⟩
  obtain ⟨o, ho1, ho2⟩ : ∃ o : Option Nat, (zs ≠ [] → bv.ownBlock = o) ∧ ∀ b, o = some b → b < w.heap.size ∧ v.ownBlock ≠ some b := by
    by_cases h : zs = []
    · exact ⟨none, fun q => absurd h q, fun b e => by cases e⟩
    · exact ⟨_, fun _ => rfl, fun b e => ⟨hI.lt h b e, hz h b e⟩⟩
  obtain ⟨ba, bc, rfl⟩ := hlen
  obtain ⟨va, vc, rfl⟩ : ∃ a cap, v = .slice a X.length cap := by
    rcases hv.2 with ⟨rfl, h0⟩ | ⟨g, cap, cur, rfl, _⟩
    · rw [h0]; exact ⟨_, _, rfl⟩
    · exact ⟨_, _, rfl⟩
  have hv1 := hv.alloc (.cells #[.slice va X.length vc] 22)
  have HG := Lib.hid (grow_any base X.length zs.length _ _ (w.alloc (.cells #[.slice va X.length vc] 22)) hv1 hbig (by simp; omega))
  have HI := Lib.hid hI
  have HO := Lib.hid ho2
  have HO1 := Lib.hid ho1
  obtain ⟨i0, hi, hz0, hz1, hz2⟩ := info_parts info_u8
  have Hi := Lib.hid hi
  have Hz1 := Lib.hid hz1
  have hB0 := Boxed.new w 22 (.slice va X.length vc)
  have hc0 := hB0.cell
  have hf0 := hB0.frozen
  have HB0 := Lib.hid hB0
  clear hv1 hI ho2 ho1 hv hz hi hz0 hz1 hz2 hB0
  refine (callsIn_wide (n := 9)).1 ?_
  refine callsIn_of_wp_marks Try.func28 rfl trivial ?_ rfl
  simp only [Try.ntmps28, List.size_toArray, List.length_cons, List.length_nil, Nat.reduceAdd, Nat.reduceSub, Array.replicate_succ, Array.replicate_zero, List.push_toArray, List.append_toArray, List.nil_append, List.cons_append]
  gi_wp2_with fail
  refine ⟨trivial, (callsIn_wide.2 HG.out).mono ?_⟩
  rintro e w1 ⟨a, cap, rfl, hroom, own1, g1, n1⟩
  have bx1 := HB0.out.kept g1 (by simp)
  have hc1 := bx1.cell
  have hf1 := bx1.frozen
  have G1 := Lib.hid g1
  have B1 := Lib.hid bx1
  have O1 := Lib.hid own1
  have N1 := Lib.hid n1
  clear hc0 hf0 HG own1 n1 g1 bx1
  gi_wp2_with (refine ⟨trivial, (values_in Fence.wide _ trivial rfl _ _ _ _).mono ?_⟩; rintro e w2 ⟨rfl, rfl⟩)
  obtain ⟨W1, hW1⟩ : ∃ W1, w1.setCell ⟨w.heap.size, 0, none⟩ (.slice a X.length cap) = W1 := ⟨_, rfl⟩
  have bx2 : Boxed W1 w.heap.size 22 (.slice a X.length cap) := by rw [← hW1]; exact B1.out.set _
  have own2 : W1.ownsRow base 5 1 (.slice a X.length cap) X.length (Lib.byteCells X) := by
    rw [← hW1]; exact O1.out.kept (grownBy_setCell' w1 _ _) (.inr (B1.out.not_row (by decide) O1.out).symm)
  have gr1 : w.grownBy w1 none := grownBy_trans (World.grownBy_alloc w _ none) G1.out (fun g e => by cases e)
  have gr2 : w.grownBy W1 none := by rw [← hW1]; exact grownBy_trans gr1 (grownBy_setCell' w1 _ _) (fun g e => by cases e; exact .inr (Nat.le_refl _))
  have n2 : ∀ g, (Value.slice a X.length cap).ownBlock = some g → (Value.slice va X.length vc).ownBlock = some g ∨ w.heap.size ≤ g := fun g e => (N1.out g e).imp id (fun h => by simp at h; omega)
  have hs1 : W1.heap.size = w1.heap.size := by rw [← hW1]; simp
  rw [hW1]
  clear hc1 hf1 hW1 gr1
  obtain ⟨W0, hW0⟩ : ∃ W0, W1.alloc (.cells #[.slice ba zs.length bc] 22) = W0 := ⟨_, rfl⟩
  have bx0 : Boxed W0 w.heap.size 22 (.slice a X.length cap) := by rw [← hW0]; exact bx2.alloc _
  have own0 : W0.ownsRow base 5 1 (.slice a X.length cap) X.length (Lib.byteCells X) := by rw [← hW0]; exact own2.alloc _
  have gr0 : w.grownBy W0 none := by rw [← hW0]; exact grownBy_trans gr2 (World.grownBy_alloc W1 _ none) (fun g e => by cases e)
  have bb0 : Boxed W0 w1.heap.size 22 (.slice ba zs.length bc) := by rw [← hW0, ← hs1]; exact Boxed.new _ _ _
  have hle : w.heap.size + 1 ≤ W0.heap.size := bx0.lt
  have hseq := values_stops Fence.wide 8 trivial rfl (by omega) w1.heap.size (.slice ba zs.length bc) zs o HO1.out (by omega) W0 bb0.lt bb0.cell (HI.out.below (grownBy_below gr0 (Nat.le_refl _) (fun k e => by cases e)))
  rw [hW0]
  have gr0' : w.grownBy W0 (Value.slice va X.length vc).ownBlock := ⟨gr0.os, gr0.tape, gr0.output, gr0.size, fun k hk _ => gr0.block k hk (by simp)⟩
  have N2 := Lib.hid n2
  have hreach : X.length + zs.length ≤ cap := hroom
  clear hs1 hW0 bx2 own2 gr2 G1 B1 O1 N1 n2 gr0 hroom
  refine wpIn_rangeFunc_ownF (n := 9) rfl (by omega) (gf := 45) (lb := #[.pointer (some ⟨w1.heap.size, 0, none⟩)]) rfl trivial (enters_of Try.func45 (by kernel_rfl) rfl)
    hseq sameB_t (sameB_b (fun b e => by have := (HO.out b e).1; omega)) (Below.refl _ _) (fun _ => rfl)
    (fun pre W => Boxed W w.heap.size 22 (.slice a (X.length + pre.length) cap) ∧ W.ownsRow base 5 1 (.slice a (X.length + pre.length) cap) (X.length + pre.length) (Lib.byteCells (X ++ pre)) ∧ w.grownBy W (Value.slice va X.length vc).ownBlock)
    (fun _ _ _ => False)
    (OwnFrom.and (Own.from (boxed_own w.heap.size 22 (fun pre : List UInt8 => Value.slice a (X.length + pre.length) cap)) _) (OwnFrom.and (Own.from (row_own base 5 1 (fun pre : List UInt8 => Value.slice a (X.length + pre.length) cap) (fun pre => X.length + pre.length) (fun pre => Lib.byteCells (X ++ pre))) _) (grown_own (by omega) _)))
    (fun _ _ _ _ _ hs _ _ => hs)
    ⟨by simpa using bx0, by simpa using own0, gr0'⟩
    (fun x => { tmps := #[.slice va X.length vc, .slice ba zs.length bc, .pointer (some ⟨w.heap.size, 0, none⟩), undef, .slice none 0 0, byV x, .slice va X.length vc, .slice ba zs.length bc, .int .i64 zs.length, .slice a X.length cap, .slice ba zs.length bc, .func (.func 45) #[] #[.pointer (some ⟨w1.heap.size, 0, none⟩)], byV x, undef, undef, undef, undef, undef], defers := [] }) ?assign ?body ?done ?stop
  case assign =>
    intro l x W K hK
    gi_wp2
    exact hK
  case body =>
    rintro l pre x W ⟨hbx, hrow, hgr⟩ hlt
    have hc := hbx.cell
    have hf := hbx.frozen
    have HB := Lib.hid hbx
    have HR := Lib.hid hrow
    have HG := Lib.hid hgr
    have hW : w.heap.size < W.heap.size := hbx.lt
    clear hbx hrow hgr
    have hxcap : X.length + pre.length + 1 ≤ cap := by omega
    obtain ⟨g, rfl⟩ : ∃ g, a = some ⟨g, 0, none⟩ := by
      rcases HR.out.2 with ⟨q, _⟩ | ⟨g, cap', cur, q, _⟩
      · injection q; omega
      · injection q with q1; exact ⟨g, q1⟩
    have hng : w.heap.size ≠ g := fun e => (HB.out.not_row (by decide) HR.out) (by rw [e]; rfl)
    gi_wp2_with (gi_at_builtin; refine wpListIn_append_fits _ rfl _ _ 22 rfl base 5 i0 1 Try.underlying22 Hi.out Hz1.out g _ cap _ rfl (HR.out.alloc _) ⟨W.heap.size, 0, none⟩ 1 1 [byV x] rfl rfl (cell_one_new _ _ _) (by simp [Value.oneCell']) hxcap ?_; intro w3 hown' hgrow; have hbx3 := (HB.out.alloc (.cells #[byV x] 5)).kept hgrow (fun e => hng (by cases e; rfl)); have hc3 := hbx3.cell; have hf3 := hbx3.frozen)
    have hn3 : ∀ b, o = some b → b < W.heap.size ∧ some g ≠ some b := fun b e => by
      obtain ⟨q1, q2⟩ := HO.out b e
      refine ⟨by omega, fun q => ?_⟩
      cases q
      rcases N2.out g rfl with q | q
      · exact q2 q
      · omega
    have gA : W.grownBy w3 (some g) := grownBy_trans (World.grownBy_alloc W _ (some g)) hgrow (fun g' e => .inl e)
    obtain ⟨_, r2, r3, r4, _⟩ := HB.out.appended (tmp := .cells #[byV x] 5) (by decide) HR.out (by omega) hb hown' hgrow
    have el : X.length + (pre ++ [x]).length = X.length + pre.length + 1 := by simp; omega
    have ec : Lib.byteCells (X ++ (pre ++ [x])) = Lib.byteCells (X ++ pre) ++ [byV x] := by rw [← List.append_assoc, bcells_snoc]
    refine ⟨r4, ?_, ?_, ?_, ?_⟩
    · refine sameB_t (sameB_grown gA (fun b e => (hn3 b e).1) (fun b e => (hn3 b e).2)) (sameB_grown (grownBy_setCell' w3 _ _) (fun b e => Nat.lt_of_lt_of_le (hn3 b e).1 gA.size) (fun b e q => ?_))
      have := (HO.out b e).1
      cases q
      omega
    · rw [el]; exact r2
    · rw [el, ec]; exact r3
    · exact grownBy_trans (grownBy_trans HG.out gA (fun g' e => by cases e; exact N2.out g rfl)) (grownBy_setCell' w3 _ _) (fun g' e => by cases e; exact .inr (Nat.le_refl _))
  case done =>
    rintro D ys W hD rfl ⟨hbx, hrow, hgr⟩ hK
    have hc := hbx.cell
    have HR := Lib.hid hrow
    have HG := Lib.hid hgr
    clear hbx hrow hgr
    gi_wp2
    refine ⟨by simp, .inl ⟨_, _, rfl, run_takeDeferred hK, ?_⟩⟩
    have el : X.length + ys.length = (X ++ ys).length := by simp
    refine ⟨_, results_tmp rfl _ _ _, ?_⟩
    unfold BehindPost
    rw [← el]
    exact ⟨_, rfl, ⟨_, _, rfl⟩, ownsRow_putObj HR.out _ hK rfl, grownBy_trans HG.out (grownBy_putObj' W D _) (fun g e => by cases e; exact .inr (by omega)), fun g e => N2.out g (by cases a <;> exact e)⟩
  case stop =>
    rintro D c pre W _ _ h _
    exact h.elim
end Go.Proofs.Yteddlpcnefogpaa
