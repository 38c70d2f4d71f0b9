/- (*Log).Snap of records that may be. -/
import Derived.Test.YteddlpcnefogpaaJnV
namespace Go.Proofs.Yteddlpcnefogpaa
open Go Go.Proofs Go.RowKit Go.Shelf
set_option maxRecDepth 100000
attribute [local go_sem] Oper.semAt_some
theorem flatE_few {w : World} : ∀ (xs : List (SY w)), endR (xs.map fun x => x.1.r) ≤ 65539 * xs.length
  | [] => by simp [endR]
  | x :: xs => by
    have h1 := flatE_few xs
    have h2 := x.2.1.2
    simp only [List.map_cons, endR, List.length_cons]
    omega
abbrev rOf {w : World} (xs : List (SY w)) : List Rec := xs.map fun x => x.1.r
def SnapPost (base lb b : Nat) (v : Value) (n c : Int) (rs : List Rec) (R : Int × Dk) (w : World) (e : Ending) (w' : World) : Prop :=
  ∃ v', e = .returned (.int .i64 R.1) ∧ LgAt base w' lb b v' R.2 (if R.1 = 0 then ((flatE rs).length : Int) else n) (if R.1 = 0 then (rs.length : Int) else c) ∧ LTo w w' lb b v v'
set_option maxHeartbeats 8000000 in
theorem snap_in (base lb b : Nat) (v : Value) (d : Dk) (n c : Int) (a : Option Addr) (ca : Nat) (w : World) (zs : List (SY w)) (h : LgAt base w lb b v d n c) (hz : RcsL w.heap.size w (.slice a zs.length ca) zs) (hoff : d.off = false)
    (hops : d.ops < 4611686018427387904) (hbig : endR (rOf zs) ≤ 549755813888) (hlen : zs.length ≤ 1000000) :
    CallsIn Fence.wide 9 Try.prog 25 #[.pointer (some ⟨lb, 0, none⟩), .slice a zs.length ca] w (SnapPost base lb b v n c (rOf zs) (d.replace (flatE (rOf zs))) w) := by
  obtain ⟨i0, hi, hz0, hz1, hz2⟩ := info_parts info_u8
  have HI := Lib.hid hi
  have HZ := Lib.hid hz0
  have HZ1 := Lib.hid hz1
  have HZ2 := Lib.hid hz2
  have HH := Lib.hid h
  have HZs := Lib.hid hz
  clear hi hz0 hz1 hz2 h hz
  refine callsIn_of_wp_marks Try.func25 rfl trivial ?_ rfl
  simp only [Try.ntmps25, List.size_toArray, List.length_cons, List.length_nil, Nat.reduceAdd, Nat.reduceSub, Array.replicate_succ, Array.replicate_zero, List.push_toArray, List.append_toArray, List.nil_append, List.cons_append]
  gi_wp2_with fail
  refine ⟨trivial, (rvals_in Fence.wide _ trivial rfl _ _ _ _).mono ?_⟩
  rintro e w1 ⟨rfl, rfl⟩
  gi_wp2
  obtain ⟨W0, hW0⟩ : ∃ W0, ((w.alloc (.cells #[.int .i64 0] 34)).alloc (.cells #[.slice none 0 0] 22)).alloc (.cells #[.slice a zs.length ca] 24) = W0 := ⟨_, rfl⟩
  have hlp : Below w.heap.size w W0 := by rw [← hW0]; go_grown
  have hsz : W0.heap.size = w.heap.size + 3 := by rw [← hW0]; simp
  have be0 : Boxed W0 w.heap.size 34 (.int .i64 0) := by
    rw [← hW0]
    exact ((Boxed.new w 34 (.int .i64 0)).alloc _).alloc _
  have bv0 : Boxed W0 (w.heap.size + 1) 22 (.slice none 0 0) := by
    rw [← hW0]
    have h := Boxed.new (w.alloc (.cells #[.int .i64 0] 34)) 22 (.slice none 0 0)
    rw [World.size_alloc] at h
    exact h.alloc _
  have bs0 : W0.cell? ⟨w.heap.size + 1 + 1, 0, none⟩ = some (.slice a zs.length ca) := by
    rw [← hW0]
    have h := Boxed.new ((w.alloc (.cells #[.int .i64 0] 34)).alloc (.cells #[.slice none 0 0] 22)) 24 (.slice a zs.length ca)
    rw [World.size_alloc, World.size_alloc] at h
    exact h.cell
  have hg0 : w.grownBy W0 none := grown_below hlp
  rw [hW0]
  clear hW0
  have hI0 := HZs.out.below hlp
  refine wpIn_rangeFunc_ownH (F := Fence.wide) (n := 9) rfl (by omega) (gf := 43) (lb := #[.pointer (some ⟨w.heap.size + 1 + 1, 0, none⟩)]) rfl trivial (enters_of Try.func43 (by kernel_rfl) rfl)
    (encs := fun x : SY w => #[syV x]) (Kp := Below w.heap.size) (rvals_stops Fence.wide (9 - 1) trivial rfl (by omega) (w.heap.size + 1 + 1) w.heap.size (.slice a zs.length ca) zs (by omega) W0 (by omega) (by omega) bs0 hI0) (fun h k => Below.trans h k) (fun W l o o' hl hlo _ _ => (Below.refl _ W).grown (grownBy_putObj' W l o') (by have := (Array.getElem?_eq_some_iff.1 hlo).1; omega) (fun k e => by cases e; omega)) (Below.refl _ _) (fun _ => rfl)
    (fun pre W => (∃ v, Boxed W (w.heap.size + 1) 22 v ∧ W.ownsRow W0.heap.size 5 1 v (flatE (rOf pre)).length (Lib.byteCells (flatE (rOf pre))) ∧ True) ∧ Boxed W w.heap.size 34 (.int .i64 0) ∧ Below w.heap.size W0 W)
    (fun _ _ _ => False)
    (OwnFrom.and (Own.from (holdsRow_own W0.heap.size (w.heap.size + 1) 22 5 1 (fun (pre : List (SY w)) => (flatE (rOf pre)).length) (fun (pre : List (SY w)) => Lib.byteCells (flatE (rOf pre))) (fun _ _ => True)) _) (OwnFrom.and (Own.from (boxed_own w.heap.size 34 (fun _ => .int .i64 0)) _) (ownFrom_below (by omega) (by omega))))
    (fun _ _ _ _ _ hs _ _ => hs)
    ⟨⟨_, bv0, World.ownsRow_nil _ _ _ _, trivial⟩, be0, Below.refl _ _⟩
    (fun x a' W => ∃ Bx, w.heap.size + 2 < Bx ∧ Blk W Bx #[byV x.1.r.1, x.1.dv] 42 ∧ a' = { tmps := #[.pointer (some ⟨lb, 0, none⟩), .slice a zs.length ca, undef, undef, .pointer (some ⟨w.heap.size, 0, none⟩), .pointer (some ⟨w.heap.size + 1, 0, none⟩), .pointer (some ⟨Bx, 0, none⟩), undef, undef, .slice a zs.length ca, .func (.func 43) #[] #[.pointer (some ⟨w.heap.size + 1 + 1, 0, none⟩)], syV x, undef, undef, undef, undef, undef, undef, undef, undef, undef, undef, undef, undef, undef, undef, undef, undef, undef, undef, undef, undef, undef, undef, undef, undef, undef], defers := [] })
    (fun x a' => ?ax) ?assign ?body ?done ?stop
  case ax => exact fun s X Y row ⟨Bx, q1, q2, q3⟩ hg hr => ⟨Bx, q1, (blk_own (β := Unit) Bx _ _).from _ () X Y row q2 hg hr, q3⟩
  case assign =>
    rintro l' pre x W K ⟨⟨bv, hv, hrow, _⟩, ht, hB⟩ hK
    have hWs : W0.heap.size ≤ W.heap.size := hB.size
    have HR := Lib.hid hrow
    clear hrow
    gi_wp2
    exact hK _ _ ((KeepsOthers.alloc _ _).from _) ((Below.refl _ W).alloc (by omega) _) ⟨⟨bv, hv.alloc _, HR.out.alloc _, trivial⟩, ht.alloc _, hB.alloc (by omega) _⟩ ⟨W.heap.size, by omega, heap_alloc_new W _, rfl⟩
  case body =>
    rintro l' pre x a' W hl ⟨r, hr⟩ ⟨⟨bv, hv, hrow, _⟩, ht, hB⟩ ⟨Bx, hBx, bX, rfl⟩ hlen
    have HR := Lib.hid hrow
    clear hrow
    have cx0 := blk_cell (j := 0) bX rfl
    have cx1 := blk_cell (j := 1) bX rfl
    have HE := Lib.hid (encode_any x.1.r.1 x.1.a x.1.c x.1.r.2 W (x.2.2.below (hlp.trans hB)) (by have := x.2.1.2; omega))
    gi_wp2_with fail
    refine ⟨trivial, (callsIn_wide.2 HE.out).mono ?_⟩
    intro e w1 hp
    obtain ⟨hb1, ea, ec, rfl, hd1⟩ := encPost_ok x.2.1 hp
    have hgr1 := grown_below hb1
    have hk0 : KeepsOthers W w1 := ⟨hb1.size, fun k _ hk _ => (hb1.block k (Array.getElem?_eq_some_iff.1 hk).1).trans hk⟩
    have hbw : Below w.heap.size W w1 := hb1.mono (by have := hB.size; omega)
    have hv1 : Boxed w1 (w.heap.size + 1) 22 bv := hv.kept hgr1 (by simp)
    have ht1 : Boxed w1 w.heap.size 34 (.int .i64 0) := ht.kept hgr1 (by simp)
    have hR1 : w1.ownsRow W0.heap.size 5 1 bv (flatE (rOf pre)).length (Lib.byteCells (flatE (rOf pre))) := HR.out.kept hgr1 (by
      rcases q : bv.ownBlock with _ | k
      · exact .inl rfl
      · exact .inr (by simp))
    have hB1 : Below w.heap.size W0 w1 := hB.trans (hb1.mono (by have := hB.size; omega))
    obtain ⟨g, rfl⟩ : ∃ g, ea = some ⟨g, 0, none⟩ := by
      rcases hd1.1.2 with ⟨e, h0⟩ | ⟨g, cap, cur, e, _⟩
      · rw [encR_len] at h0; omega
      · injection e with e1; exact ⟨g, e1⟩
    have hnews : ∀ j u, (Lib.byteCells (encR x.1.r))[j]? = some u → w1.cell? ((⟨g, 0, none⟩ : Addr).add j) = some u := fun j u hj => World.ownsRow.cells hd1.1 (g := g) rfl j u hj
    have hfew : endR (rOf pre) ≤ 65539 * pre.length := flatE_few pre
    have hel := encR_len x.1.r
    have hxo := x.2.1.2
    have hpl := flatE_len (rOf pre)
    have esn : flatE (rOf (pre ++ [x])) = flatE (rOf pre) ++ encR x.1.r := by
      show flatE ((pre ++ [x]).map _) = _
      rw [List.map_append, List.map_cons, List.map_nil, flatE_snoc]
    obtain ⟨E, hE⟩ : ∃ E, encR x.1.r = E := ⟨_, rfl⟩
    obtain ⟨P, hP⟩ : ∃ P, flatE (rOf pre) = P := ⟨_, rfl⟩
    rw [hE] at hd1 hnews hel esn ⊢
    rw [hP] at hR1 hpl esn
    have HR1 := Lib.hid hR1
    have HV1 := Lib.hid hv1
    have HT1 := Lib.hid ht1
    have HB1 := Lib.hid hB1
    have HN := Lib.hid hnews
    have HS := Lib.hid esn
    have hEl : E.length ≤ 65539 := by omega
    have hE0 : 0 < E.length := by omega
    have hPl : P.length ≤ 65539000000 := by omega
    have hW1 : W0.heap.size ≤ w1.heap.size := hB1.size
    have cb1 := hv1.cell
    have cf1 := hv1.frozen
    clear hb1 hp hgr1 hv1 ht1 hR1 hB1 hnews HE hE hP esn HR hel hpl hfew hd1
    gi_wp2_with (gi_at_builtin; refine wpListIn_append_own _ rfl _ _ 22 rfl W0.heap.size 5 i0 (.int .u8 0) 1 1 Try.underlying22 HI.out HZ.out HZ1.out HZ2.out rfl (by decide) _ _ _ rfl HR1.out ⟨g, 0, none⟩ E.length ec (Lib.byteCells E) rfl (by simp [Lib.byteCells]) HN.out (by intro u hu; simp only [Lib.byteCells, List.mem_map] at hu; obtain ⟨y, _, rfl⟩ := hu; rfl) (by unfold maxLen; omega) (by omega) hW1 ?_)
    intro v2 w2 own2 g2 _
    rw [← hsz] at own2
    obtain ⟨gn, cn, rfl⟩ := own_some own2 (by omega)
    have hv2 : Boxed w2 (w.heap.size + 1) 22 bv := HV1.out.kept g2 (HV1.out.not_row (by decide) HR1.out)
    have ht2 : Boxed w2 w.heap.size 34 (.int .i64 0) := HT1.out.kept g2 (HT1.out.not_row (by decide) HR1.out)
    have cb2 := hv2.cell
    have cf2 := hv2.frozen
    have hvl : ∀ k, bv.ownBlock = some k → W0.heap.size ≤ k := fun k e => (World.ownsRow.lt HR1.out k e).1
    have hB2 : Below w.heap.size W0 w2 := HB1.out.grown g2 (by omega) (fun k e => by have := hvl k e; omega)
    have ho2 : Boxed (w2.setCell ⟨w.heap.size + 1, 0, none⟩ (.slice (some ⟨gn, 0, none⟩) (P.length + E.length) cn)) (w.heap.size + 1) 22 (.slice (some ⟨gn, 0, none⟩) (P.length + E.length) cn) := hv2.set _
    have ho3 : (w2.setCell ⟨w.heap.size + 1, 0, none⟩ (.slice (some ⟨gn, 0, none⟩) (P.length + E.length) cn)).ownsRow W0.heap.size 5 1 (.slice (some ⟨gn, 0, none⟩) (P.length + E.length) cn) (P.length + E.length) (Lib.byteCells P ++ Lib.byteCells E) := own2.kept (grownBy_setCell' w2 _ _) (.inr (row_ne (B := w.heap.size + 1) own2 (by omega)))
    have ho4 : Boxed (w2.setCell ⟨w.heap.size + 1, 0, none⟩ (.slice (some ⟨gn, 0, none⟩) (P.length + E.length) cn)) w.heap.size 34 (.int .i64 0) := ht2.other (by omega) _
    have ho5 : Below w.heap.size W0 (w2.setCell ⟨w.heap.size + 1, 0, none⟩ (.slice (some ⟨gn, 0, none⟩) (P.length + E.length) cn)) := hB2.setCell (Nat.le_succ _) _
    have hk1 : KeepsOthers w1 w2 := KeepsOthers.of_grownBy g2 (fun j o ej hj => by
      obtain ⟨c, fz, q⟩ := row_at2 HR1.out j ej
      rw [q] at hj; cases hj; rfl)
    have HF : Hid (KeepsFrom W0.heap.size W (w2.setCell ⟨w.heap.size + 1, 0, none⟩ (.slice (some ⟨gn, 0, none⟩) (P.length + E.length) cn)) ∧ Below w.heap.size W (w2.setCell ⟨w.heap.size + 1, 0, none⟩ (.slice (some ⟨gn, 0, none⟩) (P.length + E.length) cn))) :=
      ⟨((hk0.trans hk1).trans (KeepsOthers.setCell _ _ _)).from _, (hbw.grown g2 (by omega) (fun k e => by have := hvl k e; omega)).setCell (Nat.le_succ _) _⟩
    have HO := Lib.hid (And.intro ho2 (And.intro ho3 (And.intro ho4 ho5)))
    clear hv2 ht2 hvl hB2 ho2 ho3 ho4 ho5 hk1 own2 g2
    gi_wp2
    obtain ⟨q1, q2, q3, q4⟩ := HO.out
    refine ⟨HF.out.1, HF.out.2, ⟨_, q1, ?_, trivial⟩, q3, q4⟩
    rw [HS.out, List.length_append]
    simpa [Lib.byteCells] using q2
  case done =>
    rintro D ys W hD rfl ⟨⟨bv, hv, hrow, _⟩, ht, hB⟩ hK
    have HR := Lib.hid hrow
    clear hrow
    have hg1 : w.grownBy W none := by
      have q := hlp.trans hB
      exact ⟨q.os, q.tape, q.output, q.size, fun k hk _ => q.block k hk⟩
    have L1 := HH.out.grow hg1
    have HL1 := Lib.hid L1
    have HG1 := Lib.hid hg1
    have cA := L1.at.f3
    have HD := Lib.hid (down_any base lb b v d _ c W L1)
    rw [hoff] at HD
    have hv3 := hv.cell
    clear L1 hg1
    gi_wp2_with fail
    refine ⟨trivial, (callsIn_wide.2 HD.out).mono ?_⟩
    rintro e w1 ⟨rfl, rfl⟩
    gi_wp2_with fail
    have hel := flatE_len (rOf ys)
    obtain ⟨E, hE⟩ : ∃ E, flatE (rOf ys) = E := ⟨_, rfl⟩
    rw [hE] at hel ⊢
    have HR' : Hid (W.ownsRow W0.heap.size 5 1 bv E.length (Lib.byteCells E)) := by rw [← hE]; exact HR.out
    obtain ⟨ba, bc, rfl⟩ : ∃ a c, bv = .slice a E.length c := by
      rcases HR'.out.2 with ⟨rfl, h0⟩ | ⟨g, cap, cur, rfl, _⟩
      · rw [h0]; exact ⟨_, _, rfl⟩
      · exact ⟨_, _, rfl⟩
    have hrl : (rOf ys).length = ys.length := List.length_map _
    have HRL := Lib.hid hrl
    have hEb : E.length ≤ 549755813888 := by omega
    have hsz2 := hB.size
    have HEE := Lib.hid hE
    clear hel hrl HR hE
    have hS : W.drew.cell? ⟨lb, 0, none⟩ = some (.pointer (some ⟨b, 0, none⟩)) ∧ W.drew.cell? ⟨w.heap.size + 1, 0, none⟩ = some (.slice ba E.length bc) := ⟨cA.1, hv3⟩
    refine wpIn_mono ?_ NoPanic.imp
    refine region_anyM (S := fun u => u.cell? ⟨lb, 0, none⟩ = some (.pointer (some ⟨b, 0, none⟩)) ∧ u.cell? ⟨w.heap.size + 1, 0, none⟩ = some (.slice ba E.length bc)) 11 (by kernel_rfl) (fun hS => ?_) hS
    refine anyM_d 0 [0, 11] hS ?_
    refine anyM_d 1 [1, 2, 3, 4, 6, 11] hS ?_
    refine anyM_d 2 [2, 3, 4, 6, 11] hS ?_
    refine anyM_d 3 [3, 4, 6, 11] hS ?_
    refine anyM_d 4 [4, 6, 11] hS ?_
    refine anyM_d 5 [5, 6, 11] hS ?_
    refine anyM_d 7 [7, 8, 11] hS ?_
    refine anyM_d 8 [8, 11] hS ?_
    refine anyM_d 9 [9, 10, 11] hS ?_
    refine anyM_d 10 [10, 11] hS ?_
    have hap : ∀ g, (Value.slice ba E.length bc).ownBlock = some g → v.ownBlock ≠ some g ∧ g ≠ b := fun g e => by
      have h1 := (World.ownsRow.lt HR'.out g e).1
      refine ⟨fun q => ?_, ?_⟩
      · have h2 := (World.ownsRow.lt HH.out.dk.own g q).2
        omega
      · have h2 := HH.out.dk.lt
        omega
    have H6 := Lib.hid (replace_any base b v (.slice ba E.length bc) d E W.drew (HL1.out.dk.drewN 1) (Bys.of_row (row_drewN HR'.out 1)) (fun _ => hap) hops hEb)
    refine anyM_o 6 (fun K hK' => ?_)
    go_simp
    refine ⟨trivial, ?_⟩
    refine (callsIn_wide.2 H6.out).mono ?_
    rintro e w2 ⟨rfl, v2, D2, T2⟩
    have L2 := (HL1.out.drewN 1).op T2 D2
    have T02 : LTo w w2 lb b v v2 := ((LTo.grown HG1.out).trans (LTo.grown (w' := W.drewN 1) ⟨rfl, rfl, rfl, Nat.le_refl _, fun _ _ _ => rfl⟩)).trans (LTo.of T2 lb)
    have cA2 := L2.at.f3
    have hfar : ∀ k, w.heap.size ≤ k → k < W.heap.size → w2.heap[k]? = W.heap[k]? := fun k h1 h2 => T2.block k h2 (by have := HH.out.dk.lt; omega) (fun e => by have := (World.ownsRow.lt HH.out.dk.own k e).2; omega)
    have hb2 : w2.cell? ⟨w.heap.size + 1, 0, none⟩ = some (.slice ba E.length bc) := (World.cell?_of_block (hfar (w.heap.size + 1) (by omega) hv.lt)).trans hv3
    have ht2 : Boxed w2 w.heap.size 34 (.int .i64 0) := (hfar w.heap.size (Nat.le_refl _) ht.lt).trans ht
    have hK2 : w2.heap[D]? = some (.deferred (some [])) := (hfar D (by omega) (Array.getElem?_eq_some_iff.1 hK).1).trans hK
    have hS2 : w2.cell? ⟨lb, 0, none⟩ = some (.pointer (some ⟨b, 0, none⟩)) ∧ w2.cell? ⟨w.heap.size + 1, 0, none⟩ = some (.slice ba E.length bc) := ⟨cA2.1, hb2⟩
    have H19 := Lib.hid (left_any base lb b v2 _ n c (d.replace E).1 (E.length : Int) (ys.length : Int) w2 L2)
    have HT2 := Lib.hid T02
    have HB2 := Lib.hid ht2
    have HK2 := Lib.hid hK2
    have hl2 := L2.lt
    have hll := HH.out.lt
    have hv2D : v2.ownBlock ≠ some D := by
      intro e
      rcases D2.own.2 with ⟨rfl, _⟩ | ⟨g, cap, cur, rfl, _, hg, _⟩
      · simp [Value.ownBlock] at e
      · obtain rfl : g = D := by simpa [Value.ownBlock] using e
        rw [hK2] at hg; cases hg
    have hv2B : v2.ownBlock ≠ some w.heap.size := by
      intro e
      rcases D2.own.2 with ⟨rfl, _⟩ | ⟨g, cap, cur, rfl, _, hg, _⟩
      · simp [Value.ownBlock] at e
      · obtain rfl : g = w.heap.size := by simpa [Value.ownBlock] using e
        rw [show w2.heap[w.heap.size]? = _ from ht2] at hg
        simp at hg
    clear D2 T2 L2 T02 hS H6 cA hfar hb2 ht2 hK2 hv3 hv ht
    dsimp only
    refine hK' _ _ hS2 ?_
    clear hK' K
    refine anyM_l (fun K hK' => ?_)
    go_simp
    refine ⟨trivial, ?_⟩
    refine (callsIn_wide.2 H19.out).mono ?_
    rintro e w3 ⟨rfl, L3, T3⟩
    have T03 := HT2.out.trans T3
    have hfar : ∀ k, w.heap.size ≤ k → k < w2.heap.size → v2.ownBlock ≠ some k → w3.heap[k]? = w2.heap[k]? := fun k h1 h2 h3 => T3.block k h2 (by omega) (by have := HH.out.dk.lt; omega) h3
    have ht3 : Boxed w3 w.heap.size 34 (.int .i64 0) := (hfar _ (Nat.le_refl _) HB2.out.lt hv2B).trans HB2.out
    have hK3 : w3.heap[D]? = some (.deferred (some [])) := (hfar D (by omega) (Array.getElem?_eq_some_iff.1 HK2.out).1 hv2D).trans HK2.out
    have ct3 := ht3.cell
    have cf3 := ht3.frozen
    have hDne : D ≠ w.heap.size := by omega
    obtain ⟨r0, hr0⟩ : ∃ r0, (d.replace E).1 = r0 := ⟨_, rfl⟩
    have HF : Hid (∀ W4, (w3.setCell ⟨w.heap.size, 0, none⟩ (.int .i64 (d.replace E).1)).grownBy W4 (some D) → SnapPost base lb b v n c (rOf ys) (d.replace E) w (.returned (.int .i64 (d.replace E).1)) W4) := by
      intro W4 hg4
      have gall : w3.grownBy (w3.setCell ⟨w.heap.size, 0, none⟩ (.int .i64 (d.replace E).1)) (some w.heap.size) := grownBy_set w3 _ 0 _
      have hlb3 : lb ≠ w.heap.size ∧ lb ≠ D ∧ b ≠ w.heap.size ∧ b ≠ D := by
        have := HH.out.dk.lt
        omega
      have L4 : LgAt base (w3.setCell ⟨w.heap.size, 0, none⟩ (.int .i64 (d.replace E).1)) lb b v2 (d.replace E).2 _ _ := ⟨L3.dk.kept gall (by intro e; cases e; exact hlb3.2.2.1 rfl) (fun g e q => by cases q; exact hv2B e), (gall.block lb L3.lt (by intro e; cases e; exact hlb3.1 rfl)).trans L3.blk, L3.ge⟩
      have L5 : LgAt base W4 lb b v2 (d.replace E).2 _ _ := ⟨L4.dk.kept hg4 (by intro e; cases e; exact hlb3.2.2.2 rfl) (fun g e q => by cases q; exact hv2D e), (hg4.block lb L4.lt (by intro e; cases e; exact hlb3.2.1 rfl)).trans L4.blk, L4.ge⟩
      have hsz3 := T03.size
      refine ⟨v2, rfl, ?_, ⟨hg4.os.trans T03.os, hg4.tape.trans T03.tape, hg4.output.trans T03.output, Nat.le_trans (by simpa [World.setCell] using hsz3) hg4.size, fun k h1 h2 h3 h4 => ?_, T03.new⟩⟩
      · rw [HEE.out, HRL.out]; exact L5
      · refine (hg4.block k (by simp [World.setCell]; omega) (by intro e; cases e; omega)).trans ((gall.block k (by omega) (by intro e; cases e; omega)).trans (T03.block k h1 h2 h3 h4))
    rw [hr0] at HF ⊢
    have HK3 := Lib.hid hK3
    have HT3 := Lib.hid ht3
    clear L3 T3 T03 hfar H19 hK3 hr0 ht3
    dsimp only
    refine hK' _ _ ?_
    clear hK' K
    refine anyI_o 12 (fun K hK' => ?_)
    go_simp
    refine hK' _ _ ?_
    clear hK' K
    refine anyIn_done (by kernel_rfl) (NoPanic.normal ?_) _
    gi_wp2
    have hKd : (w3.setCell ⟨w.heap.size, 0, none⟩ (.int .i64 r0)).heap[D]? = some (.deferred (some [])) := (Below.heap_setCell _ _ _ D hDne).trans HK3.out
    have hres : ((w3.setCell ⟨w.heap.size, 0, none⟩ (.int .i64 r0)).putObj D (.deferred none)).cell? ⟨w.heap.size, 0, none⟩ = some (.int .i64 r0) := ((HT3.out.set (.int .i64 r0)).kept (grownBy_putObj' _ D _) (by intro e; cases e; exact hDne rfl)).cell
    refine ⟨by simp, .inl ⟨_, _, rfl, run_takeDeferred hKd, ?_⟩⟩
    refine ⟨.int .i64 r0, by simp [results, Try.f25, go_sem, hres], ?_⟩
    rw [HEE.out]
    exact HF.out _ (grownBy_putObj' _ D _)
  case stop =>
    rintro D c pre W _ _ h _
    exact h.elim
theorem snap_any (base lb b : Nat) (v : Value) (d : Dk) (n c : Int) (a : Option Addr) (m ca : Nat) (rs : List Rec) (w : World) (h : LgAt base w lb b v d n c) (hz : Rcs w (.slice a m ca) rs) (hr : ∀ r ∈ rs, OkR r) (hoff : d.off = false)
    (hops : d.ops < 4611686018427387904) (hbig : endR rs ≤ 549755813888) (hlen : rs.length ≤ 1000000) :
    Calls Try.prog 25 #[.pointer (some ⟨lb, 0, none⟩), .slice a m ca] w (SnapPost base lb b v n c rs (d.replace (flatE rs)) w) := by
  obtain ⟨zs, rfl, hL⟩ := hz.pick hr
  have hm := hz.len
  rw [List.length_map] at hm hlen
  subst hm
  exact (callsIn_wide (n := 9)).1 (snap_in base lb b v d n c a ca w zs h hL hoff hops hbig hlen)
end Go.Proofs.Yteddlpcnefogpaa
