/- journal.Open of a disk whose power is on, with nothing armed. -/
import Derived.Test.YteddlpcnefogpaaJnL
namespace Go.Proofs.Yteddlpcnefogpaa
open Go Go.Proofs Go.RowKit Go.Shelf
set_option maxRecDepth 100000
def Dk.opened (d : Dk) : Dk := if endR (scanR d.row) < d.row.length then (d.replace (flatE (scanR d.row))).2 else d
theorem Dk.fin_on {d : Dk} (h : d.off = false) (ha : d.armed = 0) : d.fin = (0, { d with armed := 0, ops := d.ops + 1 }) := by
  unfold Dk.fin
  rw [if_neg (by simp [h]), if_neg (by omega), ha]
  rfl
theorem Dk.replace_on {d : Dk} (h : d.off = false) (ha : d.armed = 0) (z : List UInt8) : d.replace z = (0, { d with row := z, kept := z.length, armed := 0, ops := d.ops + 1 }) := by
  unfold Dk.replace
  rw [Dk.fin_on h ha]
  rfl
theorem Dk.opened_is {d : Dk} (h : d.off = false) (ha : d.armed = 0) (_ : d.kept ≤ d.row.length) : d.opened.row = flatE (scanR d.row) ∧ d.opened.off = false ∧ d.opened.armed = 0 ∧ d.ops ≤ d.opened.ops ∧ d.opened.ops ≤ d.ops + 1 := by
  unfold Dk.opened
  split
  · rw [Dk.replace_on h ha]; exact ⟨rfl, h, rfl, by show d.ops ≤ d.ops + 1; omega, Int.le_refl _⟩
  · rename_i hn
    refine ⟨?_, h, ha, Int.le_refl _, by omega⟩
    rw [← scanR_take, List.take_of_length_le (by omega)]
def OpenPost (base b : Nat) (v : Value) (d : Dk) (w : World) (e : Ending) (w' : World) : Prop :=
  ∃ lb v' vs xs, e = .returned (.tuple #[.pointer (some ⟨lb, 0, none⟩), vs, .int .i64 0]) ∧ xs.map Yl.r = scanR d.row ∧ Ys w.heap.size w' vs xs ∧
    LgAt base w' lb b v' d.opened ((flatE (scanR d.row)).length : Int) ((scanR d.row).length : Int) ∧ w.heap.size ≤ lb ∧ DTo w w' b v v'
theorem Ys.grow {B : Nat} {w w' : World} {v : Value} {xs : List Yl} (h : Ys B w v xs) (g : w.grownBy w' none) : Ys B w' v xs :=
  ⟨h.1.kept g (by
    rcases q : v.ownBlock with _ | k
    · exact .inl rfl
    · exact .inr (by simp)), h.2.1, fun x hx => ⟨(h.2.2 x hx).1.kept g (by
    rcases q : x.dv.ownBlock with _ | k
    · exact .inl rfl
    · exact .inr (by simp)), (h.2.2 x hx).2⟩⟩
theorem DTo.row {w w' : World} {b B e s n : Nat} {v v' x : Value} {X : List Value} (t : DTo w w' b v v') (h : w.ownsRow B e s x n X) (hb : b < B) (hv : ∀ g, v.ownBlock = some g → g < B) : w'.ownsRow B e s x n X :=
  ⟨h.1, h.2.imp id (fun ⟨g, cap, cur, q1, q2, q3, q4⟩ => ⟨g, cap, cur, q1, q2, (t.block g (Array.getElem?_eq_some_iff.1 q3).1 (by omega) (fun e => by have := hv g e; omega)).trans q3, q4⟩)⟩
theorem Ys.op {w w' : World} {b B : Nat} {v v' x : Value} {xs : List Yl} (h : Ys B w x xs) (t : DTo w w' b v v') (hb : b < B) (hv : ∀ g, v.ownBlock = some g → g < B) : Ys B w' x xs :=
  ⟨t.row h.1 hb hv, h.2.1, fun y hy => ⟨t.row (h.2.2 y hy).1 hb hv, (h.2.2 y hy).2⟩⟩
set_option maxHeartbeats 8000000 in
theorem open_any (base b : Nat) (v : Value) (d : Dk) (w : World) (h : DkAt base w b v d) (hoff : d.off = false) (harm : d.armed = 0) (hops : d.ops < 4611686018427387904) :
    Calls Try.prog 13 #[.pointer (some ⟨b, 0, none⟩)] w (OpenPost base b v d w) := by
  have HO := Lib.hid (off_any base b v d w h)
  rw [hoff] at HO
  have HB := Lib.hid (bytes_any base b v d w h)
  have HH := Lib.hid h
  have hfl := h.fits.len
  have hge := h.ge
  have hlt := h.lt
  have hkp := h.fits.kept
  clear h
  go_enter Try.func13, Try.ntmps13
  go_wp2_with fail
  refine HO.out.mono ?_
  rintro e w0 ⟨rfl, rfl⟩
  go_wp2_with fail
  refine HB.out.mono ?_
  rintro e w1 ⟨vb, rfl, ⟨ab, cb, rfl⟩, own1, g1, _⟩
  have G1 := grow_nil g1
  have hd1 : Dat w.heap.size w1 (.slice ab d.row.length cb) d.row := ⟨own1, _, _, rfl⟩
  have hc1 := BysC.of_dat hd1
  have HS := Lib.hid (scan_any ab d.row.length cb d.row w1 hc1.bys hc1.le (by omega))
  have HD1 := Lib.hid hd1
  have HC1 := Lib.hid hc1
  have D1 := HH.out.grow G1
  have HDk := Lib.hid D1
  have HG1 := Lib.hid G1
  clear own1 g1 hd1 hc1 D1 G1 HB HO
  go_wp2_with fail
  refine HS.out.mono ?_
  rintro e w2 ⟨vs, xs, rfl, hxs, hys, hb2⟩
  have D2 := HDk.out.grow (grown_below hb2)
  have G2 : w.grownBy w2 none := grownBy_trans HG1.out (grown_below hb2) (fun g e => by cases e)
  have hc2 := HC1.out.below hb2
  have hys2 : Ys w.heap.size w2 vs xs := ⟨row_at _ _ hys.1 HG1.out.size, hys.2.1, fun x hx => dat_mono (hys.2.2 x hx) HG1.out.size⟩
  obtain ⟨sa, cs, rfl⟩ := hys.2.1
  have hxl : (scanR d.row).length = xs.length := by rw [← hxs, List.length_map]
  have hfl2 : (flatE (scanR d.row)).length = endR (scanR d.row) := flatE_len _
  have hEle := endR_le d.row
  have htk := scanR_take d.row
  obtain ⟨E, hE⟩ : ∃ E, endR (scanR d.row) = E := ⟨_, rfl⟩
  rw [hE] at hfl2 hEle htk ⊢
  by_cases hlt2 : E < d.row.length
  · have q1 : (E : Int) < (d.row.length : Int) := by omega
    have hop : d.opened = (d.replace (flatE (scanR d.row))).2 := by unfold Dk.opened; rw [hE, if_pos hlt2]
    have hr1 : (d.replace (flatE (scanR d.row))).1 = 0 := by rw [Dk.replace_on hoff harm]
    obtain ⟨ga, ra⟩ : ∃ g, ab = some ⟨g, 0, none⟩ ∧ w.heap.size ≤ g := by
      rcases HD1.out.1.2 with ⟨e, h0⟩ | ⟨g, cap, cur, e, q, _⟩
      · omega
      · injection e with e1; exact ⟨g, e1, q⟩
    obtain ⟨rfl, hga⟩ := ra
    have hbys : Bys w2 (.slice (some ⟨ga, 0, none⟩) E cb) (flatE (scanR d.row)) := by
      rcases hc2.bys with ⟨⟨_, _, e⟩, e0⟩ | ⟨b', off, cap, e, hb', hcc⟩
      · rw [e0] at hlt2; simp at hlt2
      · injection e with e1 e2 e3
        cases e1
        refine .inr ⟨ga, 0, cb, by rw [hfl2], hb', fun j x hj => ?_⟩
        rw [← htk, List.getElem?_take] at hj
        split at hj
        · exact hcc j x hj
        · cases hj
    have HRp := Lib.hid (replace_any base b v (.slice (some ⟨ga, 0, none⟩) E cb) d (flatE (scanR d.row)) w2 D2 hbys (fun _ g e => by
      obtain rfl : ga = g := by simpa [Value.ownBlock] using e
      refine ⟨fun q => ?_, by omega⟩
      have := (World.ownsRow.lt HH.out.own _ q).2
      omega) hops (by rw [hfl2]; omega))
    have hEc : E ≤ cb := by have := HC1.out.le; omega
    have HY := Lib.hid hys2
    have HG2 := Lib.hid G2
    have HXL := Lib.hid hxl
    have HOP := Lib.hid hop
    have HR1 := Lib.hid hr1
    have HFL := Lib.hid hfl2
    have HXS := Lib.hid hxs
    clear hys hys2 hb2 G2 D2 hc2 hbys hxl hop hr1 hfl2 htk hE hxs HC1 HS
    go_wp2_with fail
    refine HRp.out.mono ?_
    rintro e w3 ⟨rfl, v3, D3, T3⟩
    have T03 : DTo w w3 b v v3 := (DTo.grown (v := v) (v' := v) ⟨HG2.out.os, HG2.out.tape, HG2.out.output, HG2.out.size, fun k hk _ => HG2.out.block k hk (by simp)⟩ (fun g e => .inl e)).trans T3
    have hvl : ∀ g, v.ownBlock = some g → g < w.heap.size := fun g e => (World.ownsRow.lt HH.out.own g e).2
    have HF : Hid (OpenPost base b v d w (.returned (.tuple #[.pointer (some ⟨w3.heap.size, 0, none⟩), .slice sa xs.length cs, .int .i64 0])) (w3.alloc (.cells #[.pointer (some ⟨b, 0, none⟩), .int .i64 (E : Int), .int .i64 (xs.length : Int)] 70))) := by
      refine ⟨w3.heap.size, v3, _, xs, rfl, HXS.out, (HY.out.op T3 hlt hvl).grow (World.grownBy_alloc _ _ none), ⟨?_, ?_, ?_⟩, T03.size, T03.trans (DTo.grown ⟨rfl, rfl, rfl, by simp, fun k hk _ => Below.heap_alloc w3 _ k hk⟩ (fun g e => .inl e))⟩
      · rw [HOP.out]; exact D3.new _
      · rw [HFL.out, HXL.out]; exact heap_alloc_new w3 _
      · exact Nat.le_trans (Nat.le_of_lt (Nat.lt_of_le_of_lt hge hlt)) T03.size
    have hr1 := HR1.out
    rw [hr1]
    clear D3 T3 T03 hvl HRp
    go_wp2
    refine bodyPost_ret (by simp [results, Try.f13, go_sem]; try rfl) rfl ?_
    exact HF.out
  · have q1 : ¬ (E : Int) < (d.row.length : Int) := by omega
    have hop : d.opened = d := by unfold Dk.opened; rw [hE, if_neg hlt2]
    have HF : Hid (OpenPost base b v d w (.returned (.tuple #[.pointer (some ⟨w2.heap.size, 0, none⟩), .slice sa xs.length cs, .int .i64 0])) (w2.alloc (.cells #[.pointer (some ⟨b, 0, none⟩), .int .i64 (E : Int), .int .i64 (xs.length : Int)] 70))) := by
      refine ⟨w2.heap.size, v, _, xs, rfl, hxs, hys2.grow (World.grownBy_alloc _ _ none), ⟨?_, ?_, ?_⟩, G2.size, (DTo.grown (v := v) (v' := v) ⟨G2.os, G2.tape, G2.output, G2.size, fun k hk _ => G2.block k hk (by simp)⟩ (fun g e => .inl e)).trans (DTo.grown ⟨rfl, rfl, rfl, by simp, fun k hk _ => Below.heap_alloc w2 _ k hk⟩ (fun g e => .inl e))⟩
      · rw [hop]; exact D2.new _
      · rw [hfl2, hxl]; exact heap_alloc_new w2 _
      · exact Nat.le_trans (Nat.le_of_lt (Nat.lt_of_le_of_lt hge hlt)) G2.size
    clear hys hys2 hb2 G2 D2 hc2 hxl hop hfl2 htk hE hxs HC1 HS
    go_wp2
    refine bodyPost_ret (by simp [results, Try.f13, go_sem]; try rfl) rfl ?_
    exact HF.out
end Go.Proofs.Yteddlpcnefogpaa
