/- braces.Text of a set's items; label.Text. -/
import Derived.Test.YteagpkkffnehiaaGreatDoorTxI
namespace Go.Proofs.YteagpkkffnehiaaGreatDoor
open Go Go.Proofs Go.RowKit Go.Shelf
set_option maxRecDepth 100000
attribute [local go_sem] Oper.semAt_some
/-- in a round that began at W0: the boxes, the row of bytes, what is kept -/
structure PT (w W0 : World) (Bw : Nat) (W : World) (vb v : Value) (S ah : List UInt8) (Bx : Nat) (cs : Array Value) : Prop where
  bt : Boxed W (w.heap.size + 1) 56 vb
  ba : Boxed W (w.heap.size + 1 + 1) 9 (.string ⟨ah.toArray⟩)
  bx : Blk W Bx cs 95
  own : W.ownsRow w.heap.size 5 1 v S.length (Lib.byteCells S)
  bel : Below w.heap.size w W
  bel0 : Below w.heap.size W0 W
  ko : KeepsT 5 Bw W0 W
theorem PT.grow {w W0 W W1 : World} {Bw : Nat} {vb v v' : Value} {S S' ah : List UInt8} {Bx n' : Nat} {cs : Array Value} (h : PT w W0 Bw W vb v S ah Bx cs) (g : W.grownBy W1 v.ownBlock) (own : W1.ownsRow w.heap.size 5 1 v' n' (Lib.byteCells S')) (hn : n' = S'.length) : PT w W0 Bw W1 vb v' S' ah Bx cs := by
  subst hn
  have hk : ∀ i, v.ownBlock = some i → w.heap.size ≤ i := by
    intro i e
    rcases h.own.2 with ⟨rfl, _⟩ | ⟨gg, cap, cur, rfl, hb, hgb, _⟩
    · simp [Value.ownBlock] at e
    · obtain rfl : gg = i := by simpa [Value.ownBlock] using e
      exact hb
  refine ⟨h.bt.kept g (h.bt.not_row (by decide) h.own), h.ba.kept g (h.ba.not_row (by decide) h.own), heap_grow h.own g (by decide) h.bx, own, h.bel.grown g h.bel.size hk, h.bel0.grown g (by have := h.bt.lt; omega) hk, h.ko.trans (KeepsT.grown g (fun r e => ?_))⟩
  rcases h.own.2 with ⟨rfl, _⟩ | ⟨gg, cap, cur, rfl, _, hgb, _⟩
  · simp [Value.ownBlock] at e
  · obtain rfl : gg = r := by simpa [Value.ownBlock] using e
    exact ⟨_, _, hgb⟩
theorem PT.alloc {w W0 W : World} {Bw : Nat} {vb v : Value} {S ah : List UInt8} {Bx : Nat} {cs : Array Value} (h : PT w W0 Bw W vb v S ah Bx cs) (o : Obj) : PT w W0 Bw (W.alloc o) vb v S ah Bx cs :=
  ⟨h.bt.alloc o, h.ba.alloc o, (Below.heap_alloc W o Bx (Array.getElem?_eq_some_iff.1 h.bx).1).trans h.bx, h.own.alloc o, h.bel.alloc h.bel.size o, h.bel0.alloc (by have := h.bt.lt; omega) o, h.ko.trans (KeepsT.alloc _ _ _ _)⟩
theorem PT.esc {w W0 W W1 : World} {Bw : Nat} {vb v v' : Value} {S S' ah : List UInt8} {Bx : Nat} {cs : Array Value} (h : PT w W0 Bw W vb v S ah Bx cs) (e : EW W w.heap.size v' S' W1) : PT w W0 Bw W1 vb v' S' ah Bx cs :=
  ⟨boxed_others e.oth h.bt (by decide), boxed_others e.oth h.ba (by decide), e.oth Bx _ h.bx (by simp) (fun c fz e' => by simp at e'), e.own, h.bel.trans e.bel, h.bel0.trans e.bel, h.ko.trans ⟨e.bel.size, fun k o _ hk ho => e.oth k o hk (by simp) ho⟩⟩
theorem PT.ew {w W0 W : World} {Bw : Nat} {vb v : Value} {S ah : List UInt8} {Bx : Nat} {cs : Array Value} (h : PT w W0 Bw W vb v S ah Bx cs) : EW W w.heap.size v S W :=
  ⟨h.own, Below.refl _ _, Lib.OthersKept.refl _ _ _, by have := h.bt.lt; omega⟩
theorem PT.store {w W0 W : World} {Bw : Nat} {vb v : Value} {S ah : List UInt8} {Bx : Nat} {cs : Array Value} (h : PT w W0 Bw W vb v S ah Bx cs) (hB : w.heap.size + 1 + 1 < Bx) (hBw : w.heap.size + 1 < Bw) : PT w W0 Bw (W.setCell ⟨w.heap.size + 1, 0, none⟩ v) v v S ah Bx cs :=
  ⟨h.bt.set v, h.ba.other (by omega) _, by rw [Blk, Below.heap_setCell _ _ _ _ (by show Bx ≠ w.heap.size + 1; omega)]; exact h.bx, ownsRow_setCell_other h.own (h.bt.not_row (by decide) h.own).symm _, h.bel.setCell (by simp) _, h.bel0.setCell (by simp) _, h.ko.trans (KeepsT.setCell _ hBw)⟩
set_option maxHeartbeats 4000000 in
theorem btext_any (Bs : Nat) (sv : Value) (zs : List SLab) (hreach : zs.length ≤ 100) (w : World) (hBs : Bs < w.heap.size) (hcs : w.cell? ⟨Bs, 0, none⟩ = some sv) (hI : Labs w.heap.size w sv zs) :
    Calls Tryz.prog 39 #[.func (.func 56) #[] #[.pointer (some ⟨Bs, 0, none⟩)]] w fun e w' => e = .returned (.string ⟨((runS zs).1 ++ [125]).toArray⟩) ∧ Below w.heap.size w w' := by
  refine (callsIn_wide (n := 9)).1 ?_
  refine callsIn_of_wp_marks Tryz.func39 rfl trivial ?_ rfl
  simp only [Tryz.ntmps39, List.size_toArray, List.length_cons, List.length_nil, Nat.reduceAdd, Nat.reduceSub, Array.replicate_succ, Array.replicate_zero, List.push_toArray, List.append_toArray, List.nil_append, List.cons_append]
  gi_wp2
  obtain ⟨i0, hi, hz0, hz1, hz2⟩ := info_parts info_u8
  have HI := Lib.hid hi
  have HZ := Lib.hid hz0
  have HZ1 := Lib.hid hz1
  have HZ2 := Lib.hid hz2
  clear hi hz0 hz1 hz2
  obtain ⟨W0, hW0⟩ : ∃ W0, (((w.alloc (.cells #[.int .u8 123] 5)).alloc (.cells #[.slice (some ⟨w.heap.size, 0, none⟩) 1 1] 56)).alloc (.cells #[.string ⟨#[]⟩] 9)) = W0 := ⟨_, rfl⟩
  have hlp : Below w.heap.size w W0 := by rw [← hW0]; go_grown
  have hsz : W0.heap.size = w.heap.size + 3 := by rw [← hW0]; simp
  have bt0 : Boxed W0 (w.heap.size + 1) 56 (.slice (some ⟨w.heap.size, 0, none⟩) 1 1) := by
    rw [← hW0]
    have h := Boxed.new (w.alloc (.cells #[.int .u8 123] 5)) 56 (.slice (some ⟨w.heap.size, 0, none⟩) 1 1)
    rw [World.size_alloc] at h
    exact h.alloc _
  have ba0 : Boxed W0 (w.heap.size + 1 + 1) 9 (.string ⟨#[]⟩) := by
    rw [← hW0]
    have h := Boxed.new ((w.alloc (.cells #[.int .u8 123] 5)).alloc (.cells #[.slice (some ⟨w.heap.size, 0, none⟩) 1 1] 56)) 9 (.string ⟨#[]⟩)
    rw [World.size_alloc, World.size_alloc] at h
    exact h
  have ow0 : W0.ownsRow w.heap.size 5 1 (.slice (some ⟨w.heap.size, 0, none⟩) 1 1) 1 (Lib.byteCells [123]) := by
    have h : (w.alloc (.cells #[.int .u8 123] 5)).ownsRow w.heap.size 5 1 (.slice (some ⟨w.heap.size, 0, none⟩) 1 1) 1 (Lib.byteCells [123]) :=
      ⟨rfl, .inr ⟨w.heap.size, 1, #[.int .u8 123], rfl, Nat.le_refl _, heap_alloc_new w _, Nat.le_refl _, by unfold maxLen; omega, rfl, rfl⟩⟩
    rw [← hW0]
    exact (h.alloc _).alloc _
  have hseq := items_stops Bs w.heap.size sv zs (by omega) w (Nat.le_refl _) hBs hcs hI
  rw [hW0]
  clear hW0 hI hcs
  refine rangeJ 5 (F := Fence.wide) (n := 9) rfl (by omega) (gf := 56) (lb := #[.pointer (some ⟨Bs, 0, none⟩)]) rfl trivial (enters_of Tryz.func56 (by kernel_rfl) rfl) (n₀ := w.heap.size) hseq (by omega) hlp (fun _ => rfl)
    (fun pre W => (∃ v, Boxed W (w.heap.size + 1) 56 v ∧ W.ownsRow w.heap.size 5 1 v (runS pre).1.length (Lib.byteCells (runS pre).1) ∧ True) ∧ Boxed W (w.heap.size + 1 + 1) 9 (.string ⟨(runS pre).2.toArray⟩) ∧ Below w.heap.size w W)
    (fun _ _ _ => False)
    (OwnFrom.and (Own.from (holdsRow_own w.heap.size (w.heap.size + 1) 56 5 1 (fun pre => (runS pre).1.length) (fun pre => Lib.byteCells (runS pre).1) (fun _ _ => True)) _) (OwnFrom.and (Own.from (boxed_own (w.heap.size + 1 + 1) 9 (fun pre => .string ⟨(runS pre).2.toArray⟩)) _) (ownFrom_below (Nat.le_refl _) (by rw [hsz]; omega))))
    (fun _ _ _ _ _ hs _ _ => hs)
    ⟨⟨_, bt0, ow0, trivial⟩, ba0, hlp⟩
    (fun x a' W => ∃ Bx, w.heap.size + 1 + 1 < Bx ∧ Blk W Bx #[.string ⟨x.1.1.toArray⟩, .string ⟨#[61]⟩, .string ⟨x.1.2.toArray⟩] 95 ∧ a' = { tmps := #[.func (.func 56) #[] #[.pointer (some ⟨Bs, 0, none⟩)], undef, .string ⟨#[]⟩, .pointer (some ⟨w.heap.size + 1, 0, none⟩), .pointer (some ⟨w.heap.size + 1 + 1, 0, none⟩), .pointer (some ⟨Bx, 0, none⟩), .slice (some ⟨w.heap.size, 0, none⟩) 1 1, .func (.func 56) #[] #[.pointer (some ⟨Bs, 0, none⟩)], .agg #[.string ⟨x.1.1.toArray⟩, .string ⟨#[61]⟩, .string ⟨x.1.2.toArray⟩], undef, undef, undef, undef, undef, undef, undef, undef, undef, undef, undef, undef, undef, undef, undef, undef, undef, undef, undef, undef], defers := [] })
    (fun x a' => ?ax) ?assign ?body ?done ?stop
  case ax => exact fun s X Y row ⟨Bx, q1, q2, q3⟩ hg hr => ⟨Bx, q1, (blk_own (β := Unit) Bx _ _).from _ () X Y row q2 hg hr, q3⟩
  case assign =>
    rintro l pre x W K ⟨⟨v, hv, hrow, _⟩, hleft, hB⟩ hK
    simp only [itmV, labI]
    have hWs : w.heap.size + 1 + 1 < W.heap.size := hleft.lt
    gi_wp2
    exact hK _ _ (KeepsT.alloc _ _ _ _) ((Below.refl _ W).alloc (by omega) _) ⟨⟨v, hv.alloc _, hrow.alloc _, trivial⟩, hleft.alloc _, below_new hB _⟩ ⟨W.heap.size, hWs, heap_alloc_new W _, rfl⟩
  case body =>
    rintro l pre x a' W hl ⟨r, hr⟩ ⟨⟨v, hv, hrow, _⟩, hleft, hB⟩ ⟨Bx, hBx, bX, rfl⟩ hlen
    have hWs : w.heap.size + 1 + 1 < W.heap.size := hleft.lt
    obtain ⟨n1, n2⟩ := x.2
    have hSN := runS_snoc pre x
    obtain ⟨m1, m2⟩ := runS_len pre
    have hpl : pre.length ≤ 100 := by omega
    have hSl : (runS pre).1.length ≤ 60401 := by omega
    generalize (runS pre).1 = S at *
    generalize (runS pre).2 = ah at *
    obtain ⟨⟨xn, xv⟩, hx⟩ := x
    dsimp only at n1 n2 bX hSN ⊢
    have SN := Lib.hid hSN
    have P0 : PT w W W0.heap.size W v v S ah Bx _ := ⟨hv, hleft, bX, hrow, hB, Below.refl _ _, KeepsT.refl _ _ _⟩
    have H0 := Lib.hid P0
    have c3 := hv.cell
    have c4 := hleft.cell
    have f3 := hv.frozen
    have cx0 := blk_cell (j := 0) bX rfl
    have cx1 := blk_cell (j := 1) bX rfl
    clear hSN P0 hv hleft bX hrow hB m1
    have hah : ah.length ≤ 1 := m2
    have g1 : ah.length + xn.length ≤ 9223372036854775807 := by omega
    have g2 : ah.length + xn.length + 1 ≤ 9223372036854775807 := by omega
    have g5 : ah.length + xn.length + 1 + 1 ≤ 9223372036854775807 := by omega
    have g3 : ¬ 9223372036854775807 < ah.length + xn.length := by omega
    have g4 : ¬ 9223372036854775807 < ah.length + xn.length + 1 := by omega
    have g6 : ¬ 9223372036854775807 < ah.length + xn.length + 1 + 1 := by omega
    have hbs : w.heap.size ≤ W.heap.size := by omega
    have es : ((⟨ah.toArray⟩ : ByteArray) ++ ⟨xn.toArray⟩ ++ ⟨#[61]⟩ ++ ⟨#[34]⟩) = ⟨(ah ++ xn ++ [61, 34]).toArray⟩ := by rw [bapp ah xn, show (⟨#[61]⟩ : ByteArray) = ⟨[61].toArray⟩ from rfl, bapp (ah ++ xn) [61], show (⟨#[34]⟩ : ByteArray) = ⟨[34].toArray⟩ from rfl, bapp (ah ++ xn ++ [61]) [34]]; simp
    have el : ((⟨ah.toArray⟩ : ByteArray) ++ ⟨xn.toArray⟩ ++ ⟨#[61]⟩ ++ ⟨#[34]⟩).size = ah.length + xn.length + 2 := by
      rw [es]
      show (ah ++ xn ++ [61, 34]).toArray.size = _
      simp only [List.size_toArray, List.length_append, List.length_cons, List.length_nil]
    have ES := Lib.hid es
    have EL := Lib.hid el
    clear es el
    gi_wp2_with (gi_at_builtin; refine wpListIn_append_str _ rfl (.tmp 9) (.tmp 17) 56 9 rfl w.heap.size 5 i0 Tryz.underlying56 Tryz.underlying9 HI.out HZ.out HZ1.out HZ2.out _ _ _ rfl H0.out.own _ rfl ?m1 ?m2 ?m3 ?_)
    case m1 => rw [EL.out]; unfold maxLen; omega
    case m2 => rw [EL.out]; omega
    case m3 => exact hbs
    intro v1 w1 own1 g1'
    rw [ES.out, strCells_mk] at own1
    have own1 : w1.ownsRow w.heap.size 5 1 v1 (S.length + (ah.length + xn.length + 2)) (Lib.byteCells (S ++ (ah ++ xn ++ [61, 34]))) := by rw [bcells_app]; exact own1
    obtain ⟨gg1, cap1, rfl⟩ := own_some own1 (by omega)
    have P1 := (H0.out.grow g1' own1 (by simp; omega))
    have P2 := P1.store hBx (by omega)
    have b3 := P1.bt.cell
    have b4 := P1.bt.frozen
    have d3 := P2.bt.cell
    have d4 := P2.bt.frozen
    have dx1 : (w1.setCell ⟨w.heap.size + 1, 0, none⟩ (.slice (some ⟨gg1, 0, none⟩) (S.length + (ah.length + xn.length + 2)) cap1)).cell? ⟨Bx, 2, none⟩ = some (.string ⟨xv.toArray⟩) := by
      have hb := P2.bx
      unfold Blk at hb
      simp only [World.cell?, hb]
      rfl
    have ESC := Lib.hid (esc_any w.heap.size _ _ xv (by omega) (by simp; omega) _ _ P2.ew)
    have H2 := Lib.hid P2
    clear P1 own1 g1' c3 c4 f3 cx0 cx1 P2
    gi_wp2
    refine ⟨trivial, (CallsIn.inRound l (callsIn_wide.2 ESC.out)).mono ?_⟩
    rintro e w2 ⟨v2, rfl, hE2⟩
    have P3 := H2.out.esc hE2
    have H3 := Lib.hid P3
    have hl2 : (S ++ (ah ++ xn ++ [61, 34]) ++ escR xv).length ≤ 61200 := by
      have := escR_len xv
      simp only [List.length_append, List.length_cons, List.length_nil]
      omega
    have hbs2 : w.heap.size ≤ w2.heap.size := P3.bel.size
    clear ESC H2 hE2 b3 b4 d3 d4 dx1 P3
    generalize hT : S ++ (ah ++ xn ++ [61, 34]) ++ escR xv = T at *
    have HT := Lib.hid hT
    clear hT
    gi_wp2_with (gi_at_builtin; refine wpListIn_append_own _ rfl (.tmp 22) (.tmp 23) 56 rfl w.heap.size 5 i0 (.int .u8 0) 1 1 Tryz.underlying56 HI.out HZ.out HZ1.out HZ2.out rfl (by decide) _ _ _ rfl (H3.out.own.alloc _) ⟨w2.heap.size, 0, none⟩ 1 1 [.int .u8 34] rfl rfl (cell_one_new _ _ _) (by simp [Value.oneCell']) ?k1 ?k2 ?k3 ?_)
    case k1 => unfold maxLen; omega
    case k2 => omega
    case k3 => simp; omega
    intro v3 w3 own3 g3' _
    have own3 : w3.ownsRow w.heap.size 5 1 v3 (T.length + 1) (Lib.byteCells (T ++ [34])) := by rw [bcells_app]; exact own3
    obtain ⟨gg3, cap3, rfl⟩ := own_some own3 (by omega)
    have P4 := (H3.out.alloc _).grow g3' own3 (by simp)
    have P5 := P4.store hBx (by omega)
    have b3 := P4.bt.cell
    have b4 := P4.bt.frozen
    have d3 := P5.ba.cell
    have d4 := P5.ba.frozen
    have H5 := Lib.hid P5
    clear own3 g3' P4 P5 H3
    gi_wp2
    have HP := H5.out
    refine ⟨HP.ko.trans (KeepsT.setCell _ (by omega)), HP.bel0.setCell (by show w.heap.size ≤ w.heap.size + 1 + 1; omega) _, ?_⟩
    dsimp only
    rw [SN.out]
    have e : S ++ ah ++ labT (xn, xv) = T ++ [34] := by rw [← HT.out]; unfold labT; simp
    rw [e]
    exact ⟨⟨_, HP.bt.other (by omega) _, ownsRow_setCell_other HP.own (HP.ba.not_row (by decide) HP.own).symm _, trivial⟩, HP.ba.set _, HP.bel.setCell (by show w.heap.size ≤ w.heap.size + 1 + 1; omega) _⟩
  case done =>
    rintro D ys W hD rfl ⟨⟨v, hv, hrow, _⟩, hleft, hB⟩ hK
    have c3 := hv.cell
    have f3 := hv.frozen
    obtain ⟨m1, m2⟩ := runS_len ys
    obtain ⟨S, hS⟩ : ∃ S, (runS ys).1 = S := ⟨_, rfl⟩
    rw [hS] at hrow m1
    have HS := Lib.hid hS
    clear hS
    have hbs : w.heap.size ≤ W.heap.size := hB.size
    have H0 := Lib.hid hrow
    have HB := Lib.hid hB
    have HK := Lib.hid hK
    clear hrow hB hK
    gi_wp2_with (gi_at_builtin; refine wpListIn_append_own _ rfl (.tmp 25) (.tmp 26) 56 rfl w.heap.size 5 i0 (.int .u8 0) 1 1 Tryz.underlying56 HI.out HZ.out HZ1.out HZ2.out rfl (by decide) _ _ _ rfl (H0.out.alloc _) ⟨W.heap.size, 0, none⟩ 1 1 [.int .u8 125] rfl rfl (cell_one_new _ _ _) (by simp [Value.oneCell']) ?k1 ?k2 ?k3 ?_)
    case k1 => unfold maxLen; omega
    case k2 => omega
    case k3 => simp; omega
    intro v3 w3 own3 g3' _
    have own3 : w3.ownsRow w.heap.size 5 1 v3 (S.length + 1) (Lib.byteCells (S ++ [125])) := by rw [bcells_app]; exact own3
    have hr := row_at (H0.out.alloc (.cells #[.int .u8 125] 5))
    have ko : KeepsOthers W w3 := (KeepsOthers.alloc _ _).trans (KeepsOthers.of_grownBy g3' fun j o ej hj => by
      obtain ⟨_, c, fz, hc⟩ := hr j ej
      rw [hc] at hj; cases hj; rfl)
    have hK3 := ko.same D _ HK.out rfl
    have hB3 : Below w.heap.size w w3 := (HB.out.alloc hbs _).grown g3' (by simp; omega) (fun i e => (hr i e).1)
    have hC := fun ty => str_of_row (P := Tryz.prog) (src := 56) (dst := ty) own3 Tryz.underlying56 Tryz.underlying5
    have hC := hC 9 Tryz.underlying9
    have B3 := Lib.hid hB3
    have K3 := Lib.hid hK3
    clear own3 g3' hr ko hK3 hB3 H0 c3 f3 hv
    gi_wp2
    refine ⟨by simp, .inl ⟨_, _, rfl, run_takeDeferred K3.out, ?_⟩⟩
    exact ⟨_, results_tmp rfl _ _ _, by rw [HS.out]; rfl, B3.out.trans (belowK_b (w := w) (Nat.le_refl _) w3 D _ _ (by rw [hsz] at hD; omega) K3.out rfl rfl)⟩
  case stop =>
    rintro D c pre W _ _ h _
    exact h.elim
theorem litems_any (a : Option Addr) (len cap : Nat) (w : World) :
    Calls Tryz.prog 40 #[.slice a len cap] w fun e w' => e = .returned (.func (.func 56) #[] #[.pointer (some ⟨w.heap.size, 0, none⟩)]) ∧ w' = w.alloc (.cells #[.slice a len cap] 23) := by
  go_enter Tryz.func40, Tryz.ntmps40
  go_wp2
  go_ret
  exact ⟨rfl, rfl⟩
set_option maxHeartbeats 1000000 in
theorem ltext_any (a : Option Addr) (len cap : Nat) (zs : List SLab) (hreach : zs.length ≤ 100) (w : World) (hI : Labs w.heap.size w (.slice a len cap) zs) :
    Calls Tryz.prog 24 #[.slice a len cap] w fun e w' => e = .returned (.string ⟨((runS zs).1 ++ [125]).toArray⟩) ∧ Below w.heap.size w w' := by
  have hb := below_cells (w := w) (.cells #[.slice a len cap] 23)
  have D := At.new w #[.slice a len cap] 23
  have HI : Labs (w.alloc (.cells #[.slice a len cap] 23)).heap.size (w.alloc (.cells #[.slice a len cap] 23)) (.slice a len cap) zs := by
    have h := hI.below hb
    rcases h with e | ⟨b, off, c, e, h1, h2⟩
    · exact .inl e
    · exact .inr ⟨b, off, c, e, Nat.lt_of_lt_of_le h1 hb.size, h2⟩
  have HC := Lib.hid (btext_any w.heap.size (.slice a len cap) zs hreach (w.alloc (.cells #[.slice a len cap] 23)) (by simp) (D.cell 0 _ rfl) HI)
  have HB := Lib.hid hb
  clear hI hb D HI
  go_enter Tryz.func24, Tryz.ntmps24
  go_wp2_with fail
  refine (litems_any a len cap w).mono ?_
  rintro e w1 ⟨rfl, rfl⟩
  go_wp2_with fail
  refine HC.out.mono ?_
  rintro e w2 ⟨rfl, hb⟩
  go_wp2
  go_ret
  exact ⟨rfl, below_then HB.out hb⟩
end Go.Proofs.YteagpkkffnehiaaGreatDoor
