/- store: Put, where the series is new. -/
import Derived.Test.YtedcdhngiofpjaaGreatDoorTd1
import Derived.Test.YtedcdhngiofpjaaGreatDoorSm
import Derived.Test.YtedcdhngiofpjaaGreatDoorOs
namespace Go.Proofs.YtedcdhngiofpjaaGreatDoor
open Go Go.Proofs Go.RowKit Go.Shelf
set_option maxRecDepth 100000
attribute [local go_sem] cell_set Oper.semAt_some
theorem labs_turn14 {O : List Nat} {w w' : World} {a : Option Addr} {n c : Nat} {zs : List SLab} (h : Labs w.heap.size w (.slice a n c) zs) (t : Turn O w w') (hO : ∀ ad, a = some ad → ad.block ∉ O) : Labs w'.heap.size w' (.slice a n c) zs := by
  rcases h with h | ⟨b, off, cap, e, h1, h2⟩
  · exact .inl h
  · obtain ⟨rfl, _⟩ : a = some ⟨b, off, none⟩ ∧ _ := by simpa using e
    have hb := t.block b h1 (hO _ rfl)
    exact .inr ⟨b, off, cap, e, Nat.lt_of_lt_of_le h1 t.size, fun j x hx => ⟨(World.cell?_of_block (a := ⟨b, off + j * 2, none⟩) hb).trans (h2 j x hx).1, (World.cell?_of_block (a := ⟨b, off + j * 2 + 1, none⟩) hb).trans (h2 j x hx).2⟩⟩
theorem labC_cells14 {w : World} {b off : Nat} {zs : List SLab} (h : ∀ j x, zs[j]? = some x → w.cell? ⟨b, off + j * 2, none⟩ = some (.string ⟨x.1.1.toArray⟩) ∧ w.cell? ⟨b, off + j * 2 + 1, none⟩ = some (.string ⟨x.1.2.toArray⟩)) : ∀ j v, (labC zs)[j]? = some v → w.cell? ⟨b, off + j, none⟩ = some v := by
  intro j v hv
  have hl : j < (labC zs).length := (List.getElem?_eq_some_iff.1 hv).1
  rw [labC_len14] at hl
  obtain ⟨x, hx⟩ : ∃ x, zs[j / 2]? = some x := ⟨_, List.getElem?_eq_getElem (by omega)⟩
  obtain ⟨c0, c1⟩ := labC_at zs (j / 2) x hx
  obtain ⟨d0, d1⟩ := h (j / 2) x hx
  rcases Nat.mod_two_eq_zero_or_one j with q | q
  · have e : j / 2 * 2 = j := by omega
    rw [e] at c0 d0
    rw [c0] at hv
    rw [← hv]
    exact d0
  · have e : j / 2 * 2 + 1 = j := by omega
    rw [e] at c1
    rw [show off + j / 2 * 2 + 1 = off + (j / 2 * 2 + 1) by omega, e] at d1
    rw [c1] at hv
    rw [← hv]
    exact d1
structure PtT (S : Sto) (lv : Value) (x : Nm) (n0 : Nat) (u : World) : Prop where
  X : At u n0 [lv, .int .i64 x.v, .int .i64 x.t, .int .i64 x.s, .int .i64 x.q]
  st : StAt u S
theorem PtT.drew {S : Sto} {lv : Value} {x : Nm} {n0 : Nat} {u : World} (h : PtT S lv x n0 u) : PtT S lv x n0 u.drew := ⟨h.X.drew, h.st.keep (fun _ _ => rfl)⟩
set_option maxHeartbeats 8000000 in
theorem put_new (S : Sto) (hg : 1 ≤ S.grid) (hg2 : S.grid ≤ 4398046511104) (a : Option Addr) (n cap : Nat) (zs : List SLab) (x : Nm) (hx : I64 x.v) (hz : zs.length ≤ 100) (hn0 : 0 ≤ S.n ∧ S.n ≤ 1000000) (hs : sampR zs x.t x.s x.q = 0) (hgs : getL S.ss (textL zs) = none) (hln : S.ss.length < 100) (hla : ∀ ad, a = some ad → ad.block ∉ S.own) (w : World) (h : StAt w S) (hI : Labs w.heap.size w (.slice a n cap) zs) :
    Calls Tryz.prog 11 #[.pointer (some ⟨S.b, 0, none⟩), .agg #[.slice a n cap, .int .i64 x.v, .int .i64 x.t, .int .i64 x.s, .int .i64 x.q]] w (PutP S zs x w) := by
  obtain ⟨b1, b2, b3, b4⟩ := samp_bounds hs
  have hend := end_bounds hg hg2 b3 b4
  obtain ⟨lb, lo, rfl, rfl⟩ : ∃ lb lo, a = some ⟨lb, lo, none⟩ ∧ n = zs.length := by
    rcases hI with ⟨_, q⟩ | ⟨b, off, c, q1, q2, q3⟩
    · exact absurd q b2
    · obtain ⟨e1, e2, _⟩ : a = some ⟨b, off, none⟩ ∧ n = zs.length ∧ cap = c := by simpa using q1
      exact ⟨b, off, e1, e2⟩
  obtain ⟨W1, hW1⟩ : ∃ W1, W1 = w.alloc (.cells #[.slice (some ⟨lb, lo, none⟩) zs.length cap, .int .i64 x.v, .int .i64 x.t, .int .i64 x.s, .int .i64 x.q] 33) := ⟨_, rfl⟩
  have hb1 : Below w.heap.size w W1 := by rw [hW1]; exact below_cells _
  have X1 : At W1 w.heap.size [.slice (some ⟨lb, lo, none⟩) zs.length cap, .int .i64 x.v, .int .i64 x.t, .int .i64 x.s, .int .i64 x.q] := by rw [hW1]; exact At.new w _ _
  have HCh := Lib.hid (lcheck_any (some ⟨lb, lo, none⟩) zs.length cap zs hz x.v x.t x.s x.q W1 (labs_on hI hb1))
  unfold sampV at HCh
  have xf := X1.f5
  refine (callsIn_wide (n := 9)).1 ?_
  refine callsIn_of_wp Tryz.func11 rfl trivial ?_ rfl
  simp only [Tryz.ntmps11, List.size_toArray, List.length_cons, List.length_nil, Nat.reduceAdd, Nat.reduceSub, Array.replicate_succ, Array.replicate_zero, List.push_toArray, List.append_toArray, List.nil_append, List.cons_append]
  gi_wp2_with fail
  rw [← hW1] at *
  refine ⟨trivial, (callsIn_wide.2 HCh.out).mono ?_⟩
  rw [hs]
  rintro e w2 ⟨rfl, hb2⟩
  have PX : At w2 w.heap.size [.slice (some ⟨lb, lo, none⟩) zs.length cap, .int .i64 x.v, .int .i64 x.t, .int .i64 x.s, .int .i64 x.q] ∧ Labs w2.heap.size w2 (.slice (some ⟨lb, lo, none⟩) zs.length cap) zs := ⟨X1.below hb2, labs_on (labs_on hI hb1) hb2⟩
  have HT := Lib.hid (fun W (hW : Labs W.heap.size W (.slice (some ⟨lb, lo, none⟩) zs.length cap) zs) => ltext_any (some ⟨lb, lo, none⟩) zs.length cap zs hz W hW)
  have HA := Lib.hid (fun W (hW : StAt W S) => ser_at_new W hW hgs)
  have T2 := Lib.hid (show Turn [] w w2 from (Turn.of_below hb1 []).then_below hb2)
  have St2 := Lib.hid (show StAt w2 S from (h.below hb1).below hb2)
  have hxo : w.heap.size ∉ S.b :: S.O := fun q => by
    have := h.lt w.heap.size (Sto.mem_own.2 (by rcases List.mem_cons.1 q with q | q; exact .inl q; exact .inr (.inl q)))
    omega
  have hlo : ∀ ad, some (⟨lb, lo, none⟩ : Addr) = some ad → ad.block ∉ S.b :: S.O := fun ad e q => hla ad e (Sto.mem_own.2 (by rcases List.mem_cons.1 q with q | q; exact .inl q; exact .inr (.inl q)))
  clear xf HCh hI hW1 X1 hb1 hb2
  gi_wp2_with fail
  refine region_anyM (S := fun u => At u w.heap.size [.slice (some ⟨lb, lo, none⟩) zs.length cap, .int .i64 x.v, .int .i64 x.t, .int .i64 x.s, .int .i64 x.q] ∧ Labs u.heap.size u (.slice (some ⟨lb, lo, none⟩) zs.length cap) zs) 7 (by kernel_rfl) (fun hS => ?_) (show _ ∧ _ from ⟨PX.1.drew, PX.2⟩)
  clear PX
  refine anyM_d 0 [0, 7] hS ?_
  refine anyM_d 1 [1, 7] hS ?_
  refine anyM_d 2 [2, 7] hS ?_
  refine anyM_d 3 [3, 7] hS ?_
  refine anyM_c 4 [4, 7] hS (fun u h => h.1.f5) ?_
  refine anyM_o 5 (fun K hK => ?_)
  go_simp
  refine ⟨trivial, ?_⟩
  refine (callsIn_wide.2 (HT.out _ hS.2)).mono ?_
  rintro e w3 ⟨rfl, hb3⟩
  have hM1 : At w3 w.heap.size [.slice (some ⟨lb, lo, none⟩) zs.length cap, .int .i64 x.v, .int .i64 x.t, .int .i64 x.s, .int .i64 x.q] ∧ Labs w3.heap.size w3 (.slice (some ⟨lb, lo, none⟩) zs.length cap) zs := ⟨hS.1.below hb3, labs_on hS.2 hb3⟩
  have T3 := Lib.hid (T2.out.drew.then_below hb3)
  have St3 := Lib.hid (show StAt w3 S from (St2.out.keep (w' := w2.drew) (fun _ _ => rfl)).below hb3)
  dsimp only
  refine hK _ _ hM1 ?_
  clear hS
  have hS := hM1
  clear hM1 hK K hb3 T2 St2
  refine anyM_o 6 (fun K hK => ?_)
  go_simp
  refine ⟨trivial, ?_⟩
  refine (callsIn_wide.2 (HA.out _ St3.out)).mono ?_
  rintro e w5 ⟨N, v', O', rfl, hmd⟩
  have hM1 : At w5 w.heap.size [.slice (some ⟨lb, lo, none⟩) zs.length cap, .int .i64 x.v, .int .i64 x.t, .int .i64 x.s, .int .i64 x.q] ∧ Labs w5.heap.size w5 (.slice (some ⟨lb, lo, none⟩) zs.length cap) zs := ⟨at_turn14 hS.1 hmd.turn hxo, labs_turn14 hS.2 hmd.turn hlo⟩
  have hxN : w.heap.size < w3.heap.size := hS.1.lt
  dsimp only
  refine hK _ _ hM1 ?_
  clear hS
  have hS := hM1
  clear hM1 hK K HA HT
  refine anyM_l (fun K hK => ?_)
  go_simp
  refine hK _ _ ?_
  clear hK K
  refine anyIn_done (by kernel_rfl) ?_ _
  have l1 := (cell_of_row w5 N 0 _ _ _ hmd.ser).trans (show _ = some (Value.slice none 0 0) from rfl)
  have l2 := frozen_of_row w5 N 0 _ _ hmd.ser
  have q22 : ∀ (w : World) (a : Option Addr) (n c n' c' : Nat), (binOp .eql 24 (.slice a n c) (.slice none n' c')).run Tryz.prog w = .ok (.bool a.isNone) w := fun w a n c n' c' => Lib.run_eql_slice_nil w _ _ a n c n' c' Tryz.underlying24
  have xf := hS.1.f5
  have hcells : ∀ j v, (labC zs)[j]? = some v → w5.cell? ⟨lb, lo + j, none⟩ = some v := by
    rcases hS.2 with ⟨_, q⟩ | ⟨b, off, c, q1, q2, q3⟩
    · exact absurd q b2
    · obtain ⟨⟨rfl, rfl⟩, _⟩ : (lb = b ∧ lo = off) ∧ cap = c := by simpa using q1
      exact labC_cells14 q3
  have HCl := Lib.hid (clone_any14 lb lo cap zs (by omega) w5 hcells)
  have HMd := Lib.hid hmd
  have HS5 := Lib.hid hS
  have HxN := Lib.hid hxN
  clear hmd hS hcells hxN
  gi_wp2_with fail
  refine ⟨trivial, (callsIn_wide.2 HCl.out).mono ?_⟩
  rintro e w6 ⟨lvn, rfl, hrow, hb6, _⟩
  obtain ⟨lg, lc, hlv⟩ : ∃ lg lc, lvn = .slice (some ⟨lg, 0, none⟩) zs.length lc := by
    rcases hrow.2 with ⟨_, h0⟩ | ⟨g, c, cur, q, _⟩
    · exact absurd (List.eq_nil_of_length_eq_zero h0) b2
    · exact ⟨g, c, q⟩
  subst hlv
  have hser6 := (hb6.block N (Array.getElem?_eq_some_iff.1 HMd.out.ser).1).trans HMd.out.ser
  have m1 := (cell_of_row w6 N 0 _ _ _ hser6).trans (show _ = some (Value.slice none 0 0) from rfl)
  have m2 := frozen_of_row w6 N 0 _ _ hser6
  have hmd2 := HMd.out.lab St3.out hb6 (.slice (some ⟨lg, 0, none⟩) zs.length lc)
  have hrow2 : (w6.setCell ⟨N, 0, none⟩ (.slice (some ⟨lg, 0, none⟩) zs.length lc)).ownsRow 0 TLab 2 (.slice (some ⟨lg, 0, none⟩) zs.length lc) zs.length (labC zs) := by
    refine row_keep14 ⟨hrow.1, hrow.2.imp id (fun ⟨g, c, cur, q1, _, q2⟩ => ⟨g, c, cur, q1, Nat.zero_le _, q2⟩)⟩ (fun b hb => Below.heap_setCell _ _ _ _ (fun e => ?_))
    obtain ⟨cs, q⟩ := row_lt14 hrow b hb
    dsimp only at e
    rw [e] at q
    have := q.symm.trans hser6
    simp [TLab, TSer] at this
  obtain ⟨w4, hw4⟩ : ∃ w4, w4 = w6.setCell ⟨N, 0, none⟩ (.slice (some ⟨lg, 0, none⟩) zs.length lc) := ⟨_, rfl⟩
  have hX4 : At w4 w.heap.size [.slice (some ⟨lb, lo, none⟩) zs.length cap, .int .i64 x.v, .int .i64 x.t, .int .i64 x.s, .int .i64 x.q] := by
    rw [hw4]
    have h1 := HMd.out.ge
    have h2 := HxN.out
    exact (HS5.out.1.below hb6).far (by omega) _
  rw [← hw4] at hmd2 hrow2
  obtain ⟨hst4, hnw4⟩ := hmd2.done St3.out hgs rfl b1 b2 hln hrow2
  obtain ⟨sN, hsN⟩ : ∃ sN : Sr, sN = ⟨N, .slice (some ⟨lg, 0, none⟩) zs.length lc, zs, .slice none 0 0, [], []⟩ := ⟨_, rfl⟩
  rw [← hsN] at hst4 hnw4
  have HsN := Lib.hid hsN
  have HNe := Lib.hid (show N = sN.sb by rw [hsN])
  have hpsN : sN.ps = [] := by rw [hsN]
  have HMd2 := Lib.hid hmd2
  have HSt4 := Lib.hid hst4
  have HNw4 := Lib.hid hnw4
  have HX4 := Lib.hid hX4
  have HLg := Lib.hid (show ∀ b, (Value.slice (some ⟨lg, 0, none⟩) zs.length lc).ownBlock = some b → w.heap.size ≤ b from fun b hb => by
    rcases hrow.2 with ⟨q, _⟩ | ⟨g, c, cur, q, q2, _⟩
    · cases q
    · obtain ⟨rfl, _⟩ : g = lg ∧ c = lc := by simpa [eq_comm] using q
      obtain rfl : g = b := by simpa [Value.ownBlock] using hb
      have := HMd.out.turn.size
      omega)
  clear hmd2 hst4 hnw4 hX4 hrow hrow2 hser6 hb6 HCl HS5 HMd hsN
  gi_wp2_with fail
  rw [← hw4]
  clear m1 m2 l1 l2 q22 xf hw4
  have hstw := HSt4.out
  have HMs : Hid ((textL zs, sN) ∈ ({ S with v := v', O := O', ss := loL ltS S.ss (textL zs) ++ (textL zs, sN) :: hiL ltS S.ss (textL zs) } : Sto).ss) := List.mem_append_right _ (List.mem_cons_self ..)
  have hsn0 : w.heap.size ∉ sN.own := fun hm => by
    rw [HsN.out] at hm
    have h1 : w.heap.size = N := by simpa [Sr.own] using hm
    have := HMd2.out.ge
    have := HxN.out
    omega
  have hS : PtT { S with v := v', O := O', ss := loL ltS S.ss (textL zs) ++ (textL zs, sN) :: hiL ltS S.ss (textL zs) } (.slice (some ⟨lb, lo, none⟩) zs.length cap) x w.heap.size w4 := ⟨HX4.out, HSt4.out⟩
  have hHE : Hid (∀ W (hW : StAt W { S with v := v', O := O', ss := loL ltS S.ss (textL zs) ++ (textL zs, sN) :: hiL ltS S.ss (textL zs) }), Calls Tryz.prog 38 #[.pointer (some ⟨S.b, 0, none⟩), .int .i64 x.t] W fun e w' => e = .returned (.int .i64 (endR S.grid x.t)) ∧ W = w') := fun W hW => end_any14 { S with v := v', O := O', ss := loL ltS S.ss (textL zs) ++ (textL zs, sN) :: hiL ltS S.ss (textL zs) } hg hg2 x.t b3 b4 W hW
  have hHP := Lib.hid (fun W (hW : SerAt W sN) => pane_at sN (endR S.grid x.t) hend.1 hend.2.1 W hW (by rw [hpsN]; show 0 < 100; omega))
  rw [HNe.out]
  refine region_anyM (S := fun u => At u w.heap.size [.slice (some ⟨lb, lo, none⟩) zs.length cap, .int .i64 x.v, .int .i64 x.t, .int .i64 x.s, .int .i64 x.q]) 8 (by kernel_rfl) (fun hX => ?_) hS.X.drew
  refine anyM_d 0 [0, 8] hX ?_
  refine anyM_d 1 [1, 8] hX ?_
  refine anyM_d 2 [2, 8] hX ?_
  refine anyM_d 3 [3, 8] hX ?_
  refine anyM_d 4 [4, 8] hX ?_
  refine anyM_c 5 [5, 8] hX (fun u h => h.f5) ?_
  refine anyM_o 6 (fun K hK => ?_)
  go_simp
  refine ⟨trivial, ?_⟩
  refine (callsIn_wide.2 (hHE.out _ hS.drew.st)).mono ?_
  rintro e w5 ⟨rfl, rfl⟩
  dsimp only
  refine hK _ _ hX ?_
  clear hK K hHE
  refine anyM_o 7 (fun K hK => ?_)
  go_simp
  refine ⟨trivial, ?_⟩
  refine (callsIn_wide.2 (hHP.out _ (hS.drew.st.ser _ HMs.out))).mono ?_
  rintro e w6 ⟨s6, A6, B6, p6, rfl, hpa, hse, htu, hnw⟩
  have hX6 := at_turn14 hX htu hsn0
  dsimp only
  refine hK _ _ hX6 ?_
  clear hK K hHP
  refine anyM_l (fun K hK => ?_)
  go_simp
  refine hK _ _ ?_
  clear hK K
  refine anyIn_done (by kernel_rfl) ?_ _
  have hc6 := hse.cells (endR S.grid x.t, p6) (by rw [hpa.ps]; simp)
  dsimp only at hc6
  rw [clC_X] at hc6
  have hok6 := hse.ok (endR S.grid x.t, p6) (by rw [hpa.ps]; simp)
  have hlen6 : p6.L.length < 100 := by
    rw [hpa.L, conP_get]
    cases q : getL sN.ps (endR S.grid x.t) with
    | none => show 0 < 100; omega
    | some p0 =>
      have : (endR S.grid x.t, p0) ∈ sN.ps := by
        rcases cut_at14 stoI sN.ps (endR S.grid x.t) (hstw.ser _ HMs.out).srt with ⟨v, q1, q2⟩ | ⟨q1, _⟩
        · rw [q] at q1
          obtain rfl : p0 = v := by simpa using q1
          rw [q2]; simp
        · rw [q] at q1; cases q1
      exact (show ∀ p ∈ sN.ps, p.2.L.length < 100 from by rw [hpsN]; intro p hp; cases hp) _ this
  have HD := Lib.hid hpa
  have HSe := Lib.hid hse
  have HTu := Lib.hid (show Turn sN.own w4 w6 from ((Turn.refl _ w4).drew.trans htu (fun _ q => .inl q)))
  have HNw := Lib.hid (show New sN.own s6.own w4 from fun b q => (hnw b q).imp id (fun r => r))
  have HSt := Lib.hid hS.st
  clear hpa hse htu hnw hX hS
  gi_wp2_with fail
  have hbd1 : Bd p6.L.length (ofR p6.L) := ofR_bd p6.L hok6.i64 (by omega)
  have hM := Lib.hid (fun W => merge_any (ofR p6.L) (ofR [x]) hbd1 (ofR_bd [x] (fun y hy => by rw [List.mem_singleton.1 hy]; exact hx) (by show 1 ≤ 1000000; omega)) (by show p6.L.length + 1 ≤ 1000000; omega) W)
  have hR0 : PtR (.slice (some ⟨lb, lo, none⟩) zs.length cap) x w.heap.size p6.blk (clX (ofR p6.L) (histR (vals p6.L))) w6 := ⟨hX6, hc6⟩
  have hOf := Lib.hid (fun W (hW : Smps W (.slice (some ⟨w6.heap.size, 0, none⟩) 1 1) [⟨some ⟨lb, lo, none⟩, zs.length, cap, [], x⟩]) => pof_any (some ⟨w6.heap.size, 0, none⟩) 1 [⟨some ⟨lb, lo, none⟩, zs.length, cap, [], x⟩] (by show 1 ≤ 10000; omega) (fun y hy => by rw [show nums [(⟨some ⟨lb, lo, none⟩, zs.length, cap, [], x⟩ : Smp)] = [x] from rfl] at hy; rw [List.mem_singleton.1 hy]; exact hx) W hW)
  have hnm : nums [(⟨some ⟨lb, lo, none⟩, zs.length, cap, [], x⟩ : Smp)] = [x] := rfl
  rw [hnm] at hOf
  have HVL := Lib.hid (show mergeR (ofR p6.L) (ofR [x]) = ofR (p6.L ++ [x]) from (ofR_app _ _).symm)
  have HHi := Lib.hid (show putR (histR (vals p6.L)) x.v = histR (vals (p6.L ++ [x])) by rw [show vals (p6.L ++ [x]) = vals p6.L ++ [x.v] by simp [vals], histR_snoc])
  have hall : All64 (vals p6.L) := fun y hy => by
    obtain ⟨z, hz1, rfl⟩ := List.mem_map.1 hy
    exact hok6.i64 z hz1
  have hsm := histR_small hall (by show (List.map (·.v) p6.L).length ≤ _; rw [List.length_map]; omega)
  have HL65 := Lib.hid (histR_len (vals p6.L))
  have hxb : p6.blk ≠ w.heap.size := fun e => by
    have h1 := hX6.cell 0 _ rfl
    rw [← e] at h1
    have h2 := (cell_of_row w6 p6.blk 0 _ _ _ hc6).symm.trans h1
    cases h2
  obtain ⟨pn, hpn⟩ : ∃ pn, pn = ofR p6.L := ⟨_, rfl⟩
  obtain ⟨ph, hph⟩ : ∃ ph, ph = histR (vals p6.L) := ⟨_, rfl⟩
  obtain ⟨po, hpo⟩ : ∃ po, po = ofR [x] := ⟨_, rfl⟩
  obtain ⟨pr, hpr⟩ : ∃ pr, pr = mergeR pn po := ⟨_, rfl⟩
  rw [← hpn, ← hph] at hR0
  rw [← hpn, ← hpo, ← hpr] at hM
  rw [← hpo] at hOf
  rw [← hpn, ← hpo, ← hpr] at HVL
  rw [← hph] at HHi hsm HL65
  unfold Pn.V at hM hOf
  clear hX6 hc6 hbd1 hpr hall hnm hpn hph hpo
  have HR0 := Lib.hid hR0
  refine region_anyM (S := PtR (.slice (some ⟨lb, lo, none⟩) zs.length cap) x w.heap.size p6.blk (clX pn ph)) 11 (by kernel_rfl) (fun hS => ?_) hR0.drew
  clear hR0
  refine anyM_d 0 [0, 11] hS ?_
  refine anyM_d 1 [1, 11] hS ?_
  refine anyM_d 2 [2, 11] hS ?_
  refine anyM_d 3 [3, 11] hS ?_
  refine anyM_c 4 [4, 11] hS (fun u h => (clX_cells h.C).1) ?_
  refine anyM_c 5 [5, 11] hS (fun u h => h.X.f5) ?_
  refine anyM_o 6 (fun K hK => ?_)
  go_simp
  have hal : Below w6.heap.size w6 (w6.alloc (.cells #[.slice (some ⟨lb, lo, none⟩) zs.length cap, .int .i64 x.v, .int .i64 x.t, .int .i64 x.s, .int .i64 x.q] 33)).drew := (below_cells _).drew
  have hSm : Smps (w6.alloc (.cells #[.slice (some ⟨lb, lo, none⟩) zs.length cap, .int .i64 x.v, .int .i64 x.t, .int .i64 x.s, .int .i64 x.q] 33)).drew (.slice (some ⟨w6.heap.size, 0, none⟩) 1 1) [⟨some ⟨lb, lo, none⟩, zs.length, cap, [], x⟩] := by
    refine .inr ⟨w6.heap.size, 0, 1, rfl, by simp [World.drew], fun j s hj i v hv => ?_⟩
    rcases j with _ | j
    · obtain rfl : (⟨some ⟨lb, lo, none⟩, zs.length, cap, [], x⟩ : Smp) = s := by simpa using hj
      have := (At.new w6 #[.slice (some ⟨lb, lo, none⟩) zs.length cap, .int .i64 x.v, .int .i64 x.t, .int .i64 x.s, .int .i64 x.q] 33).drew.cell i v hv
      simpa using this
    · simp at hj
  have hM1 : PtR (.slice (some ⟨lb, lo, none⟩) zs.length cap) x w.heap.size p6.blk (clX pn ph) (w6.alloc (.cells #[.slice (some ⟨lb, lo, none⟩) zs.length cap, .int .i64 x.v, .int .i64 x.t, .int .i64 x.s, .int .i64 x.q] 33)).drew := HR0.out.below hal
  have HB7 := Lib.hid hal
  have HO7 := Lib.hid (hOf.out _ hSm)
  clear hSm hal hOf
  generalize (w6.alloc (.cells #[.slice (some ⟨lb, lo, none⟩) zs.length cap, .int .i64 x.v, .int .i64 x.t, .int .i64 x.s, .int .i64 x.q] 33)).drew = w7 at *
  refine hK _ _ hM1 ?_
  clear hS
  have hS := hM1
  clear hM1 hK K
  refine anyM_o 7 (fun K hK => ?_)
  go_simp
  refine ⟨trivial, ?_⟩
  refine (callsIn_wide.2 HO7.out).mono ?_
  rintro e w8 ⟨rfl, hb8⟩
  have hM1 := hS.below hb8
  have HB8 := Lib.hid (HB7.out.trans (hb8.mono HB7.out.size))
  dsimp only
  refine hK _ _ hM1 ?_
  clear hS
  have hS := hM1
  clear hM1 hK K hb8 HB7 HO7
  refine anyM_o 8 (fun K hK => ?_)
  go_simp
  refine ⟨trivial, ?_⟩
  refine (callsIn_wide.2 (hM.out _)).mono ?_
  rintro e w9 ⟨rfl, hb9⟩
  have hM1 := hS.below hb9
  have HB9 := Lib.hid (HB8.out.trans (hb9.mono HB8.out.size))
  dsimp only
  refine hK _ _ hM1 ?_
  clear hS
  have hS := hM1
  clear hM1 hK K hb9 HB8 hM
  refine anyM_d 9 [9, 10, 11] hS ?_
  refine anyM_d 10 [10, 11] hS ?_
  refine anyM_l (fun K hK => ?_)
  obtain ⟨cz, fz⟩ := clX_cells hS.C
  have f0 := fz 0
  have f1 := fz 1
  have f2 := fz 2
  have f3 := fz 3
  have f4 := fz 4
  have f5 := fz 5
  have f6 := fz 6
  have f7 := fz 7
  have f8 := fz 8
  go_simp
  obtain ⟨w10, hw10⟩ : ∃ w10, w10 = ((((((((w9.setCell ⟨p6.blk, 0, none⟩ (.int .i64 pr.c)).setCell ⟨p6.blk, 1, none⟩ (.int .i64 pr.h)).setCell ⟨p6.blk, 2, none⟩ (.int .u64 pr.l)).setCell ⟨p6.blk, 3, none⟩ (.int .i64 pr.mn)).setCell ⟨p6.blk, 4, none⟩ (.int .i64 pr.mx)).setCell ⟨p6.blk, 5, none⟩ (.int .i64 pr.t)).setCell ⟨p6.blk, 6, none⟩ (.int .i64 pr.s)).setCell ⟨p6.blk, 7, none⟩ (.int .i64 pr.q)).setCell ⟨p6.blk, 8, none⟩ (.int .i64 pr.v) := ⟨_, rfl⟩
  have hR10 : PtR (.slice (some ⟨lb, lo, none⟩) zs.length cap) x w.heap.size p6.blk (clX pr ph) w10 := by
    rw [hw10]
    refine ⟨(((((((((hS.X.far hxb _).far hxb _).far hxb _).far hxb _).far hxb _).far hxb _).far hxb _).far hxb _).far hxb _), ?_⟩
    have := blk_set14 (blk_set14 (blk_set14 (blk_set14 (blk_set14 (blk_set14 (blk_set14 (blk_set14 (blk_set14 hS.C 0 (.int .i64 pr.c)) 1 (.int .i64 pr.h)) 2 (.int .u64 pr.l)) 3 (.int .i64 pr.mn)) 4 (.int .i64 pr.mx)) 5 (.int .i64 pr.t)) 6 (.int .i64 pr.s)) 7 (.int .i64 pr.q)) 8 (.int .i64 pr.v)
    rwa [clX_pane] at this
  have st1 : ∀ {u : World} (j : Nat) (v : Value), Turn [p6.blk] w6 u → Turn [p6.blk] w6 (u.setCell ⟨p6.blk, j, none⟩ v) := fun j v h => h.trans (Turn.set _ _ j v) (fun _ q => .inl q)
  have HT10 := Lib.hid (show Turn [p6.blk] w6 w10 by
    rw [hw10]
    exact st1 _ _ (st1 _ _ (st1 _ _ (st1 _ _ (st1 _ _ (st1 _ _ (st1 _ _ (st1 _ _ (st1 _ _ (Turn.of_below HB9.out _))))))))))
  rw [← hw10]
  clear hw10 st1 f0 f1 f2 f3 f4 f5 f6 f7 f8 cz fz hS HB9
  refine hK _ _ ?_
  clear hK K
  refine anyIn_done (by kernel_rfl) ?_ _
  gi_wp2_with fail
  have hbk := bucketR_le x.v hx.2
  have hx9 : ph[bucketR x.v]? = some (nth ph (bucketR x.v)) := nth_some (by have := HL65.out; omega)
  have hnb := hsm.at (bucketR x.v)
  have hPut := Lib.hid (hput14 p6.blk pr ph x.v (nth ph (bucketR x.v)) TC w10.drew hR10.C hx hx9 hnb)
  have hS0 : PtR (.slice (some ⟨lb, lo, none⟩) zs.length cap) x w.heap.size p6.blk (clX pr ph) w10.drew := hR10.drew
  refine region_anyM (S := PtR (.slice (some ⟨lb, lo, none⟩) zs.length cap) x w.heap.size p6.blk (clX pr ph)) 5 (by kernel_rfl) (fun hS => ?_) hS0
  refine anyM_d 0 [0, 1, 2, 5] hS ?_
  refine anyM_d 1 [1, 2, 5] hS ?_
  refine anyM_d 2 [2, 5] hS ?_
  refine anyM_d 3 [3, 4, 5] hS ?_
  refine anyM_c 4 [4, 5] hS (fun u h => h.X.f5) ?_
  refine anyM_l (fun K hK => ?_)
  go_simp
  refine ⟨trivial, ?_⟩
  refine (callsIn_wide.2 hPut.out).mono ?_
  rintro e w11 ⟨⟨r0, rfl⟩, hw11⟩
  have hC11 : w11.heap[p6.blk]? = some (.cells (clX pr (putR ph x.v)) TC (0, 0)) := by
    rw [hw11]
    have := blk_set14 (w := w10.drew) hR10.C (9 + bucketR x.v) (.int .i64 (nth ph (bucketR x.v) + 1))
    rw [clX_put] at this
    exact this
  have HT11 := Lib.hid (show Turn [p6.blk] w6 w11 by
    rw [hw11]
    exact ((HT10.out.drew).trans (Turn.set w10.drew p6.blk (9 + bucketR x.v) _) (fun _ q => .inl q)).drew)
  clear hw11 hPut hS0 hS hR10 HT10
  dsimp only
  refine hK _ _ ?_
  clear hK K
  refine anyIn_done (by kernel_rfl) ?_ _
  -- the series, the store as they are now
  have hser7 : SerAt w11 { s6 with ps := A6 ++ (endR S.grid x.t, ⟨p6.blk, p6.L ++ [x]⟩) :: B6 } := by
    refine pane_set HSe.out HD.out.ps HT11.out ?_ (fun y hy => ?_) (by show (p6.L ++ [x]).length ≤ 100; rw [List.length_append, List.length_singleton]; omega)
    · rw [clC_X, ← HVL.out, ← HHi.out]
      exact hC11
    · rcases List.mem_append.1 hy with q | q
      · exact hok6.i64 y q
      · rw [List.mem_singleton.1 q]; exact hx
  have HTn : Turn sN.own w4 w11 := HTu.out.trans HT11.out (fun b q => HNw.out b (by rw [List.mem_singleton.1 q]; simp only [Sr.own, List.mem_cons, List.mem_append, List.mem_map]; exact .inr (.inr ⟨_, by rw [HD.out.ps]; exact List.mem_append_right _ (List.mem_cons_self ..), rfl⟩)))
  have hNn : New sN.own ({ s6 with ps := A6 ++ (endR S.grid x.t, ⟨p6.blk, p6.L ++ [x]⟩) :: B6 } : Sr).own w4 := fun b q => HNw.out b (by
    simp only [Sr.own, List.mem_cons, List.mem_append, List.mem_map] at q ⊢
    rcases q with q | q | ⟨e, q | q | q, r⟩
    · exact .inl q
    · exact .inr (.inl q)
    · exact .inr (.inr ⟨e, by rw [HD.out.ps]; simp [q], r⟩)
    · exact .inr (.inr ⟨_, by rw [HD.out.ps]; exact List.mem_append_right _ (List.mem_cons_self ..), by rw [← r, q]⟩)
    · exact .inr (.inr ⟨e, by rw [HD.out.ps]; simp [q], r⟩))
  have hst7 := st_set HSt.out (show ({ S with v := v', O := O', ss := loL ltS S.ss (textL zs) ++ (textL zs, sN) :: hiL ltS S.ss (textL zs) } : Sto).ss = loL ltS S.ss (textL zs) ++ (textL zs, sN) :: hiL ltS S.ss (textL zs) from rfl) hser7 HD.out.sb HD.out.ls HTn hNn
  have hown7 := set_own (w := w4) (show ({ S with v := v', O := O', ss := loL ltS S.ss (textL zs) ++ (textL zs, sN) :: hiL ltS S.ss (textL zs) } : Sto).ss = loL ltS S.ss (textL zs) ++ (textL zs, sN) :: hiL ltS S.ss (textL zs) from rfl) hNn
  have hcn7 : conP ({ s6 with ps := A6 ++ (endR S.grid x.t, ⟨p6.blk, p6.L ++ [x]⟩) :: B6 } : Sr).ps = putL ltI (conP sN.ps) (endR S.grid x.t) ((getL (conP sN.ps) (endR S.grid x.t)).getD [] ++ [x]) := by
    show conP (A6 ++ (endR S.grid x.t, ⟨p6.blk, p6.L ++ [x]⟩) :: B6) = _
    unfold putL
    rw [conP_app, ← HD.out.cA, ← HD.out.cB, ← HD.out.L]
    rfl
  generalize hs7 : ({ s6 with ps := A6 ++ (endR S.grid x.t, ⟨p6.blk, p6.L ++ [x]⟩) :: B6 } : Sr) = s7 at *
  have hl7 : s7.ls = sN.ls ∧ s7.lv = sN.lv := by rw [← hs7]; exact ⟨HD.out.ls, HD.out.lv⟩
  have hbk7 := hst7.blk
  have n1 := (cell_of_row w11 S.b 2 _ _ _ hbk7).trans (show _ = some (Value.int .i64 S.n) from rfl)
  have n2 := frozen_of_row w11 S.b 2 _ _ hbk7
  have hw : wrap64 (S.n + 1) = S.n + 1 := by rw [wrap64]; omega
  have hwI : IntKind.i64.wrap (S.n + 1) = S.n + 1 := by rw [IntKind.wrap_i64]; omega
  have HF := Lib.hid (show TailP { S with v := v', O := O', ss := loL ltS S.ss (textL zs) ++ (textL zs, sN) :: hiL ltS S.ss (textL zs) } sN (loL ltS S.ss (textL zs)) (hiL ltS S.ss (textL zs)) (textL zs) x w4 (w11.setCell ⟨S.b, 2, none⟩ (.int .i64 (S.n + 1))) from ⟨s7, st_count hst7 (S.n + 1), hl7.1, hl7.2, hcn7, (HTn.mono (fun b q => Sto.mem_own.2 (.inr (.inr ⟨_, HMs.out, q⟩)))).trans (Turn.set w11 S.b 2 _) (fun b q => .inl (Sto.mem_own.2 (.inl (List.mem_singleton.1 q)))), hown7⟩)
  clear hst7 hown7 hcn7 hs7 hl7 hbk7 HTn hNn hser7 hC11 HT11 HSe HTu HNw HSt HD HVL HHi HL65 hsm
  gi_wp2
  refine bodyPost_ret (by simp [results, Tryz.results11, go_sem]; try rfl) rfl ?_
  obtain ⟨s7, f1, f2, f3, f4, f5, f6⟩ := HF.out
  have hT3 := T3.out
  have hTm := HMd2.out.turn
  have hsz : w.heap.size ≤ w3.heap.size := hT3.size
  have hown1 : ∀ b ∈ ({ S with v := v', O := O', ss := loL ltS S.ss (textL zs) ++ (textL zs, sN) :: hiL ltS S.ss (textL zs) } : Sto).own, b ∈ S.own ∨ w3.heap.size ≤ b := HNw4.out
  refine ⟨rfl, _, f1, rfl, rfl, rfl, ?_, ((hT3.mono (fun _ q => nomatch q)).trans hTm (fun b q => .inl (Sto.mem_own.2 (by rcases List.mem_cons.1 q with r | r; exact .inl r; exact .inr (.inl r))))).trans f5 (fun b q => (hown1 b q).imp id (fun r => by omega)), fun b q => ?_, fun e he b hb => ?_⟩
  · unfold putC
    rw [con_get, hgs]
    show (loL ltS S.ss (textL zs) ++ (textL zs, s7) :: hiL ltS S.ss (textL zs)).map con = putL ltS (S.ss.map con) (textL zs) (zs, _)
    rw [List.map_append, List.map_cons, (con_lo S.ss (textL zs)).1, (con_lo S.ss (textL zs)).2]
    unfold putL con
    dsimp only
    rw [f2, f4, hpsN, HsN.out]
    rfl
  · rcases f6 b q with r | r
    · exact (hown1 b r).imp id (fun z => by omega)
    · have := hTm.size; exact .inr (by omega)
  · rcases List.mem_append.1 he with q | q
    · exact .inl ⟨e, (List.mem_filter.1 q).1, hb⟩
    · rcases List.mem_cons.1 q with rfl | q
      · dsimp only at hb
        rw [f3, HsN.out] at hb
        exact .inr (HLg.out b hb)
      · exact .inl ⟨e, (List.mem_filter.1 q).1, hb⟩
end Go.Proofs.YtedcdhngiofpjaaGreatDoor
/- store: Put where the sample may not be. -/
namespace Go.Proofs.YtedcdhngiofpjaaGreatDoor
open Go Go.Proofs Go.RowKit Go.Shelf
set_option maxRecDepth 100000
attribute [local go_sem] cell_set Oper.semAt_some
set_option maxHeartbeats 4000000 in
theorem put_bad14 (b : Nat) (a : Option Addr) (n cap : Nat) (zs : List SLab) (x : Nm) (hz : zs.length ≤ 100) (hs : sampR zs x.t x.s x.q ≠ 0) (w : World) (hI : Labs w.heap.size w (.slice a n cap) zs) :
    Calls Tryz.prog 11 #[.pointer (some ⟨b, 0, none⟩), .agg #[.slice a n cap, .int .i64 x.v, .int .i64 x.t, .int .i64 x.s, .int .i64 x.q]] w fun e w' => e = .returned (.int .i64 (sampR zs x.t x.s x.q)) ∧ Below w.heap.size w w' := by
  obtain ⟨W1, hW1⟩ : ∃ W1, W1 = w.alloc (.cells #[.slice a n cap, .int .i64 x.v, .int .i64 x.t, .int .i64 x.s, .int .i64 x.q] 33) := ⟨_, rfl⟩
  have hb1 : Below w.heap.size w W1 := by rw [hW1]; exact below_cells _
  have X1 : At W1 w.heap.size [.slice a n cap, .int .i64 x.v, .int .i64 x.t, .int .i64 x.s, .int .i64 x.q] := by rw [hW1]; exact At.new w _ _
  have HCh := Lib.hid (lcheck_any a n cap zs hz x.v x.t x.s x.q W1 (labs_on hI hb1))
  have HB1 := Lib.hid hb1
  unfold sampV at HCh
  have xf := X1.f5
  clear hI hb1
  generalize sampR zs x.t x.s x.q = r at *
  refine (callsIn_wide (n := 9)).1 ?_
  refine callsIn_of_wp Tryz.func11 rfl trivial ?_ rfl
  simp only [Tryz.ntmps11, List.size_toArray, List.length_cons, List.length_nil, Nat.reduceAdd, Nat.reduceSub, Array.replicate_succ, Array.replicate_zero, List.push_toArray, List.append_toArray, List.nil_append, List.cons_append]
  gi_wp2_with fail
  rw [← hW1] at *
  refine ⟨trivial, (callsIn_wide.2 HCh.out).mono ?_⟩
  rintro e w2 ⟨rfl, hb2⟩
  have HB2 := Lib.hid (HB1.out.trans (hb2.mono HB1.out.size))
  clear hW1 HCh HB1 X1 xf hb2
  gi_wp2
  refine bodyPost_ret (by simp [results, Tryz.results11, go_sem]; try rfl) rfl ?_
  exact ⟨rfl, HB2.out⟩
end Go.Proofs.YtedcdhngiofpjaaGreatDoor
