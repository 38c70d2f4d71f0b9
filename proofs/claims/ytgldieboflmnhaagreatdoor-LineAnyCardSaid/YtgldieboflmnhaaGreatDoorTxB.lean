/- braces.Text of any iterator of items. -/
import Derived.Test.YtgldieboflmnhaaGreatDoorBrW
import Derived.Test.YtgldieboflmnhaaGreatDoorRangeM
import Derived.Test.YtgldieboflmnhaaGreatDoorCheck
import Derived.Test.YtgldieboflmnhaaGreatDoorQuo
import Derived.Test.YtgldieboflmnhaaGreatDoorTk7
import Derived.Test.YtgldieboflmnhaaGreatDoorTxI
namespace Go.Proofs.YtgldieboflmnhaaGreatDoor
open Go Go.Proofs Go.RowKit Go.Shelf
set_option maxRecDepth 100000
attribute [local go_sem] Oper.semAt_some
theorem quo_len (l : List UInt8) : (quoR l).length ≤ 2 * l.length + 2 := by
  have := escR_len l
  unfold quoR
  simp only [List.length_append, List.length_cons, List.length_nil]
  omega
/-- an item as it is written -/
def itT (x : Itm) : List UInt8 := x.1 ++ x.2.1 ++ quoR x.2.2
def iStep (s : List UInt8 × List UInt8) (x : SItm) : List UInt8 × List UInt8 := (s.1 ++ s.2 ++ itT x.1, [44])
/-- the text of the items gone through, and what stands ahead of the next one -/
def runI (pre : List SItm) : List UInt8 × List UInt8 := pre.foldl iStep ([123], [])
theorem runI_snoc (pre : List SItm) (x : SItm) : runI (pre ++ [x]) = ((runI pre).1 ++ (runI pre).2 ++ itT x.1, [44]) := by
  unfold runI; rw [List.foldl_append]; rfl
theorem itT_len (x : SItm) : (itT x.1).length ≤ 4002 := by
  unfold itT
  have h := quo_len x.1.2.2
  have h0 := x.2
  unfold ShortI at h0
  simp only [List.length_append]
  omega
theorem runI_len (pre : List SItm) : (runI pre).1.length ≤ 1 + 4003 * pre.length ∧ (runI pre).2.length ≤ 1 := by
  have g : ∀ (l : List SItm) (s : List UInt8 × List UInt8), s.2.length ≤ 1 → (l.foldl iStep s).1.length ≤ s.1.length + 4003 * l.length ∧ (l.foldl iStep s).2.length ≤ 1 := by
    intro l
    induction l with
    | nil => intro s h2; exact ⟨by simp, h2⟩
    | cons x t ih =>
      intro s h2
      rw [List.foldl_cons]
      obtain ⟨a, b⟩ := ih (iStep s x) (by unfold iStep; simp)
      have hl := itT_len x
      have e : (iStep s x).1.length ≤ s.1.length + 4003 := by unfold iStep; simp only [List.length_append]; omega
      rw [List.length_cons]
      exact ⟨by omega, b⟩
  have := g pre ([123], []) (by simp)
  simpa [runI] using this
theorem runI_pos (pre : List SItm) : 1 ≤ (runI pre).1.length := by
  have g : ∀ (l : List SItm) (s : List UInt8 × List UInt8), s.1.length ≤ (l.foldl iStep s).1.length := by
    intro l
    induction l with
    | nil => intro s; exact Nat.le_refl _
    | cons x t ih =>
      intro s
      rw [List.foldl_cons]
      exact Nat.le_trans (by unfold iStep; simp only [List.length_append]; omega) (ih (iStep s x))
  exact g pre ([123], [])
/-- in a round that began at W0: the boxes, the row of bytes, what is kept -/
structure PT (w W0 : World) (Bw : Nat) (W : World) (vb v : Value) (S ah : List UInt8) (Bx : Nat) (cs : Array Value) : Prop where
  bt : Boxed W (w.heap.size + 1) 56 vb
  ba : Boxed W (w.heap.size + 1 + 1) 9 (.string ⟨ah.toArray⟩)
  bx : Blk W Bx cs 94
  own : W.ownsRow w.heap.size 5 1 v S.length (Lib.byteCells S)
  bel : Below w.heap.size w W
  bel0 : Below w.heap.size W0 W
  ko : KeepsT 5 Bw W0 W
theorem PT.grow {w W0 W W1 : World} {Bw : Nat} {vb v v' : Value} {S S' ah : List UInt8} {Bx n' : Nat} {cs : Array Value} (h : PT w W0 Bw W vb v S ah Bx cs) (g : W.grownBy W1 v.ownBlock) (own : W1.ownsRow w.heap.size 5 1 v' n' (Lib.byteCells S')) (hn : n' = S'.length) : PT w W0 Bw W1 vb v' S' ah Bx cs := by
  subst hn
  have hk : ∀ i, v.ownBlock = some i → w.heap.size ≤ i := by
    intro i e
    rcases h.own.2 with ⟨rfl, _⟩ | ⟨gg, cap, cur, rfl, hb, hgb, _⟩
    · simp [Value.ownBlock] at e
    · obtain rfl : gg = i := by simpa [Value.ownBlock] using e
      exact hb
  refine ⟨h.bt.kept g (h.bt.not_row (by decide) h.own), h.ba.kept g (h.ba.not_row (by decide) h.own), heap_grow h.own g (by decide) h.bx, own, h.bel.grown g h.bel.size hk, h.bel0.grown g (by have := h.bt.lt; omega) hk, h.ko.trans (KeepsT.grown g (fun r e => ?_))⟩
  rcases h.own.2 with ⟨rfl, _⟩ | ⟨gg, cap, cur, rfl, _, hgb, _⟩
  · simp [Value.ownBlock] at e
  · obtain rfl : gg = r := by simpa [Value.ownBlock] using e
    exact ⟨_, _, hgb⟩
theorem PT.alloc {w W0 W : World} {Bw : Nat} {vb v : Value} {S ah : List UInt8} {Bx : Nat} {cs : Array Value} (h : PT w W0 Bw W vb v S ah Bx cs) (o : Obj) : PT w W0 Bw (W.alloc o) vb v S ah Bx cs :=
  ⟨h.bt.alloc o, h.ba.alloc o, (Below.heap_alloc W o Bx (Array.getElem?_eq_some_iff.1 h.bx).1).trans h.bx, h.own.alloc o, h.bel.alloc h.bel.size o, h.bel0.alloc (by have := h.bt.lt; omega) o, h.ko.trans (KeepsT.alloc _ _ _ _)⟩


theorem PT.store {w W0 W : World} {Bw : Nat} {vb v : Value} {S ah : List UInt8} {Bx : Nat} {cs : Array Value} (h : PT w W0 Bw W vb v S ah Bx cs) (hB : w.heap.size + 1 + 1 < Bx) (hBw : w.heap.size + 1 < Bw) : PT w W0 Bw (W.setCell ⟨w.heap.size + 1, 0, none⟩ v) v v S ah Bx cs :=
  ⟨h.bt.set v, h.ba.other (by omega) _, by rw [Blk, Below.heap_setCell _ _ _ _ (by show Bx ≠ w.heap.size + 1; omega)]; exact h.bx, ownsRow_setCell_other h.own (h.bt.not_row (by decide) h.own).symm _, h.bel.setCell (by simp) _, h.bel0.setCell (by simp) _, h.ko.trans (KeepsT.setCell _ hBw)⟩
theorem PT.below {w W0 W W1 : World} {Bw : Nat} {vb v : Value} {S ah : List UInt8} {Bx : Nat} {cs : Array Value} (h : PT w W0 Bw W vb v S ah Bx cs) (hb : Below W.heap.size W W1) : PT w W0 Bw W1 vb v S ah Bx cs :=
  ⟨boxed_below h.bt hb, boxed_below h.ba hb, blk_below h.bx hb, h.own.kept (grown_below hb) (by cases v.ownBlock <;> simp), h.bel.trans (hb.mono h.bel.size), h.bel0.trans (hb.mono (by have := h.bt.lt; omega)), h.ko.trans (KeepsT.below hb)⟩
set_option maxHeartbeats 4000000 in
theorem btext_any (gf : Nat) (lb : Array Value) (zs : List SItm) (hreach : zs.length ≤ 100) (w : World) (eg : ∀ args w, (callFunc gf args).run Tryz.prog w = .ok (.enter gf args) w)
    (hseq : SeqStopsJ 5 Fence.wide 8 Tryz.prog gf lb (fun x : SItm => #[itmV x.1]) w.heap.size (fun ys => ys = zs) (fun pre => pre <+: zs) zs.length w) :
    Calls Tryz.prog 39 #[.func (.func gf) #[] lb] w fun e w' => e = .returned (.string ⟨((runI zs).1 ++ [125]).toArray⟩) ∧ Below w.heap.size w w' := by
  refine (callsIn_wide (n := 9)).1 ?_
  refine callsIn_of_wp_marks Tryz.func39 rfl trivial ?_ rfl
  simp only [Tryz.ntmps39, List.size_toArray, List.length_cons, List.length_nil, Nat.reduceAdd, Nat.reduceSub, Array.replicate_succ, Array.replicate_zero, List.push_toArray, List.append_toArray, List.nil_append, List.cons_append]
  gi_wp2
  obtain ⟨i0, hi, hz0, hz1, hz2⟩ := info_parts info_u8
  have HI := Lib.hid hi
  have HZ := Lib.hid hz0
  have HZ1 := Lib.hid hz1
  have HZ2 := Lib.hid hz2
  clear hi hz0 hz1 hz2
  obtain ⟨W0, hW0⟩ : ∃ W0, (((w.alloc (.cells #[.int .u8 123] 5)).alloc (.cells #[.slice (some ⟨w.heap.size, 0, none⟩) 1 1] 56)).alloc (.cells #[.string ⟨#[]⟩] 9)) = W0 := ⟨_, rfl⟩
  have hlp : Below w.heap.size w W0 := by rw [← hW0]; go_grown
  have hsz : W0.heap.size = w.heap.size + 3 := by rw [← hW0]; simp
  have bt0 : Boxed W0 (w.heap.size + 1) 56 (.slice (some ⟨w.heap.size, 0, none⟩) 1 1) := by
    rw [← hW0]
    have h := Boxed.new (w.alloc (.cells #[.int .u8 123] 5)) 56 (.slice (some ⟨w.heap.size, 0, none⟩) 1 1)
    rw [World.size_alloc] at h
    exact h.alloc _
  have ba0 : Boxed W0 (w.heap.size + 1 + 1) 9 (.string ⟨#[]⟩) := by
    rw [← hW0]
    have h := Boxed.new ((w.alloc (.cells #[.int .u8 123] 5)).alloc (.cells #[.slice (some ⟨w.heap.size, 0, none⟩) 1 1] 56)) 9 (.string ⟨#[]⟩)
    rw [World.size_alloc, World.size_alloc] at h
    exact h
  have ow0 : W0.ownsRow w.heap.size 5 1 (.slice (some ⟨w.heap.size, 0, none⟩) 1 1) 1 (Lib.byteCells [123]) := by
    have h : (w.alloc (.cells #[.int .u8 123] 5)).ownsRow w.heap.size 5 1 (.slice (some ⟨w.heap.size, 0, none⟩) 1 1) 1 (Lib.byteCells [123]) :=
      ⟨rfl, .inr ⟨w.heap.size, 1, #[.int .u8 123], rfl, Nat.le_refl _, heap_alloc_new w _, Nat.le_refl _, by unfold maxLen; omega, rfl, rfl⟩⟩
    rw [← hW0]
    exact (h.alloc _).alloc _
  rw [hW0]
  clear hW0
  refine rangeJ 5 (F := Fence.wide) (n := 9) rfl (by omega) (gf := gf) (lb := lb) rfl trivial eg (n₀ := w.heap.size) hseq (by omega) hlp (fun _ => rfl)
    (fun pre W => (∃ v, Boxed W (w.heap.size + 1) 56 v ∧ W.ownsRow w.heap.size 5 1 v (runI pre).1.length (Lib.byteCells (runI pre).1) ∧ True) ∧ Boxed W (w.heap.size + 1 + 1) 9 (.string ⟨(runI pre).2.toArray⟩) ∧ Below w.heap.size w W)
    (fun _ _ _ => False)
    (OwnFrom.and (Own.from (holdsRow_own w.heap.size (w.heap.size + 1) 56 5 1 (fun pre => (runI pre).1.length) (fun pre => Lib.byteCells (runI pre).1) (fun _ _ => True)) _) (OwnFrom.and (Own.from (boxed_own (w.heap.size + 1 + 1) 9 (fun pre => .string ⟨(runI pre).2.toArray⟩)) _) (ownFrom_below (Nat.le_refl _) (by rw [hsz]; omega))))
    (fun _ _ _ _ _ hs _ _ => hs)
    ⟨⟨_, bt0, ow0, trivial⟩, ba0, hlp⟩
    (fun x a' W => ∃ Bx, w.heap.size + 1 + 1 < Bx ∧ Blk W Bx #[.string ⟨x.1.1.toArray⟩, .string ⟨x.1.2.1.toArray⟩, .string ⟨x.1.2.2.toArray⟩] 94 ∧ a' = { tmps := #[.func (.func gf) #[] lb, undef, .string ⟨#[]⟩, .pointer (some ⟨w.heap.size + 1, 0, none⟩), .pointer (some ⟨w.heap.size + 1 + 1, 0, none⟩), .pointer (some ⟨Bx, 0, none⟩), .slice (some ⟨w.heap.size, 0, none⟩) 1 1, .func (.func gf) #[] lb, .agg #[.string ⟨x.1.1.toArray⟩, .string ⟨x.1.2.1.toArray⟩, .string ⟨x.1.2.2.toArray⟩], undef, undef, undef, undef, undef, undef, undef, undef, undef, undef, undef, undef, undef, undef, undef, undef, undef], defers := [] })
    (fun x a' => ?ax) ?assign ?body ?done ?stop
  case ax => exact fun s X Y row ⟨Bx, q1, q2, q3⟩ hg hr => ⟨Bx, q1, (blk_own (β := Unit) Bx _ _).from _ () X Y row q2 hg hr, q3⟩
  case assign =>
    rintro l pre x W K ⟨⟨v, hv, hrow, _⟩, hleft, hB⟩ hK
    simp only [itmV]
    have hWs : w.heap.size + 1 + 1 < W.heap.size := hleft.lt
    gi_wp2
    exact hK _ _ (KeepsT.alloc _ _ _ _) ((Below.refl _ W).alloc (by omega) _) ⟨⟨v, hv.alloc _, hrow.alloc _, trivial⟩, hleft.alloc _, below_new hB _⟩ ⟨W.heap.size, hWs, heap_alloc_new W _, rfl⟩
  case body =>
    rintro l pre x a' W hl ⟨r, hr⟩ ⟨⟨v, hv, hrow, _⟩, hleft, hB⟩ ⟨Bx, hBx, bX, rfl⟩ hlen
    have hWs : w.heap.size + 1 + 1 < W.heap.size := hleft.lt
    have hx2 := x.2
    unfold ShortI at hx2
    have hSN := runI_snoc pre x
    obtain ⟨m1, m2⟩ := runI_len pre
    have hpl : pre.length ≤ 100 := by omega
    have hSl : (runI pre).1.length ≤ 400301 := by omega
    have hS1 := runI_pos pre
    generalize (runI pre).1 = S at *
    generalize (runI pre).2 = ah at *
    obtain ⟨⟨xn, xo, xv⟩, hx⟩ := x
    dsimp only at hx2 bX hSN ⊢
    obtain ⟨n1, n2, n3⟩ := hx2
    have SN := Lib.hid hSN
    have P0 : PT w W W0.heap.size W.drew v v S ah Bx _ := ⟨hv, hleft, bX, hrow, hB.drew, (Below.refl _ _).drew, ⟨Nat.le_refl _, fun _ _ _ h _ => h⟩⟩
    have H0 := Lib.hid P0
    have hS0 : W.drew.cell? ⟨w.heap.size + 1, 0, none⟩ = some v ∧ W.drew.cell? ⟨w.heap.size + 1 + 1, 0, none⟩ = some (.string ⟨ah.toArray⟩) ∧ W.drew.cell? ⟨Bx, 0, none⟩ = some (.string ⟨xn.toArray⟩) ∧ W.drew.cell? ⟨Bx, 1, none⟩ = some (.string ⟨xo.toArray⟩) ∧ W.drew.cell? ⟨Bx, 2, none⟩ = some (.string ⟨xv.toArray⟩) :=
      ⟨P0.bt.cell, P0.ba.cell, blk_cell P0.bx rfl, blk_cell P0.bx rfl, blk_cell P0.bx rfl⟩
    have HQ := Lib.hid (fun W => quote_any xv (by omega) W)
    have hql := quo_len xv
    clear hSN P0 hv hleft bX hrow hB m1
    have hah : ah.length ≤ 1 := m2
    generalize hqx : quoR xv = qx at *
    have g1 : ah.length + xn.length ≤ 9223372036854775807 := by omega
    have g2 : ah.length + xn.length + xo.length ≤ 9223372036854775807 := by omega
    have g3 : ah.length + xn.length + xo.length + qx.length ≤ 9223372036854775807 := by omega
    have g4 : ¬ 9223372036854775807 < ah.length + xn.length := by omega
    have g5 : ¬ 9223372036854775807 < ah.length + xn.length + xo.length := by omega
    have g6 : ¬ 9223372036854775807 < ah.length + xn.length + xo.length + qx.length := by omega
    have es : ((⟨ah.toArray⟩ : ByteArray) ++ ⟨xn.toArray⟩ ++ ⟨xo.toArray⟩ ++ ⟨qx.toArray⟩) = ⟨(ah ++ xn ++ xo ++ qx).toArray⟩ := by rw [bapp ah xn, bapp (ah ++ xn) xo, bapp (ah ++ xn ++ xo) qx]
    have el : ((⟨ah.toArray⟩ : ByteArray) ++ ⟨xn.toArray⟩ ++ ⟨xo.toArray⟩ ++ ⟨qx.toArray⟩).size = ah.length + xn.length + xo.length + qx.length := by
      rw [es]
      show (ah ++ xn ++ xo ++ qx).toArray.size = _
      simp only [List.size_toArray, List.length_append]
    have ES := Lib.hid es
    have EL := Lib.hid el
    have QX := Lib.hid hqx
    clear es el hqx
    gi_wp2
    refine region_anyM (S := fun u => u.cell? ⟨w.heap.size + 1, 0, none⟩ = some v ∧ u.cell? ⟨w.heap.size + 1 + 1, 0, none⟩ = some (.string ⟨ah.toArray⟩) ∧ u.cell? ⟨Bx, 0, none⟩ = some (.string ⟨xn.toArray⟩) ∧ u.cell? ⟨Bx, 1, none⟩ = some (.string ⟨xo.toArray⟩) ∧ u.cell? ⟨Bx, 2, none⟩ = some (.string ⟨xv.toArray⟩)) 12 (by kernel_rfl) (fun hS => ?_) hS0
    refine anyM_d 0 [0, 12] hS ?_
    refine anyM_d 1 [1, 4, 7, 11, 12] hS ?_
    refine anyM_d 2 [2, 3, 4, 7, 11, 12] hS ?_
    refine anyM_d 3 [3, 4, 7, 11, 12] hS ?_
    refine anyM_d 4 [4, 7, 11, 12] hS ?_
    refine anyM_d 5 [5, 6, 7, 11, 12] hS ?_
    refine anyM_d 6 [6, 7, 11, 12] hS ?_
    refine anyM_d 7 [7, 11, 12] hS ?_
    refine anyM_d 8 [8, 9, 10, 11, 12] hS ?_
    refine anyM_d 9 [9, 10, 11, 12] hS ?_
    refine anyM_o 10 (fun K hK => ?_)
    go_simp
    refine ⟨trivial, ?_⟩
    gi_at_call 54
    refine (CallsIn.inRound l (callsIn_wide.2 (HQ.out _))).mono ?_
    rintro e w2 ⟨rfl, hb2⟩
    have P2 := H0.out.below hb2
    have hS2 : w2.cell? ⟨w.heap.size + 1, 0, none⟩ = some v ∧ w2.cell? ⟨w.heap.size + 1 + 1, 0, none⟩ = some (.string ⟨ah.toArray⟩) ∧ w2.cell? ⟨Bx, 0, none⟩ = some (.string ⟨xn.toArray⟩) ∧ w2.cell? ⟨Bx, 1, none⟩ = some (.string ⟨xo.toArray⟩) ∧ w2.cell? ⟨Bx, 2, none⟩ = some (.string ⟨xv.toArray⟩) :=
      ⟨P2.bt.cell, P2.ba.cell, blk_cell P2.bx rfl, blk_cell P2.bx rfl, blk_cell P2.bx rfl⟩
    have H2 := Lib.hid P2
    clear hb2 HQ H0 hS hS0 P2
    go_simp
    refine hK _ _ hS2 ?_
    clear hK K
    refine anyM_d 11 [11, 12] hS2 ?_
    refine anyM_l (fun K hK => ?_)
    obtain ⟨v1, w3, hr, own1, g1', _⟩ := Lib.run_append_own_string (P := Tryz.prog) w2 w.heap.size 56 9 56 5 i0 Tryz.underlying56 Tryz.underlying9 HI.out HZ.out HZ1.out HZ2.out v S.length _ H2.out.own _ (by rw [EL.out]; unfold maxLen; omega) (by rw [EL.out]; omega) H2.out.bel.size
    refine oper_append_string (.tmp 9) (.tmp 20) 56 9 rfl rfl rfl hr ?_
    refine hK _ _ ?_
    clear hK K hr hS2
    rw [ES.out, strCells_mk] at own1
    have own1 : w3.ownsRow w.heap.size 5 1 v1 (S.length + (ah.length + xn.length + xo.length + qx.length)) (Lib.byteCells (S ++ (ah ++ xn ++ xo ++ qx))) := by
      rw [bcells_app]
      have e : (⟨(ah ++ xn ++ xo ++ qx).toArray⟩ : ByteArray).size = ah.length + xn.length + xo.length + qx.length := by rw [← ES.out]; exact EL.out
      rw [e] at own1
      exact own1
    obtain ⟨gg1, cap1, rfl⟩ := own_some own1 (by omega)
    have P3 := H2.out.grow g1' own1 (by simp only [List.length_append])
    have P4 := P3.store hBx (by omega)
    have b3 := P3.bt.cell
    have b4 := P3.bt.frozen
    have d3 := P4.ba.cell
    have d4 := P4.ba.frozen
    have H4 := Lib.hid P4
    clear P3 P4 own1 g1' H2
    refine anyI_o 13 (fun K hK => ?_)
    go_simp
    refine hK _ _ ?_
    clear hK K
    refine anyIn_done (by kernel_rfl) ?_ _
    gi_wp2
    have HP := H4.out
    refine ⟨HP.ko.trans (KeepsT.setCell _ (by omega)), HP.bel0.setCell (by show w.heap.size ≤ w.heap.size + 1 + 1; omega) _, ?_⟩
    dsimp only
    rw [SN.out]
    have e : S ++ ah ++ itT (xn, xo, xv) = S ++ (ah ++ xn ++ xo ++ qx) := by rw [← QX.out]; unfold itT; simp
    rw [e]
    exact ⟨⟨_, HP.bt.other (by omega) _, ownsRow_setCell_other (by simpa using HP.own) (HP.ba.not_row (by decide) HP.own).symm _, trivial⟩, HP.ba.set _, HP.bel.setCell (by show w.heap.size ≤ w.heap.size + 1 + 1; omega) _⟩
  case done =>
    rintro D ys W hD rfl ⟨⟨v, hv, hrow, _⟩, hleft, hB⟩ hK
    have c3 := hv.cell
    have f3 := hv.frozen
    obtain ⟨m1, m2⟩ := runI_len ys
    obtain ⟨S, hS⟩ : ∃ S, (runI ys).1 = S := ⟨_, rfl⟩
    rw [hS] at hrow m1
    have HS := Lib.hid hS
    clear hS
    have hbs : w.heap.size ≤ W.heap.size := hB.size
    have H0 := Lib.hid hrow
    have HB := Lib.hid hB
    have HK := Lib.hid hK
    clear hrow hB hK
    gi_wp2_with (gi_at_builtin; refine wpListIn_append_own _ rfl (.tmp 22) (.tmp 23) 56 rfl w.heap.size 5 i0 (.int .u8 0) 1 1 Tryz.underlying56 HI.out HZ.out HZ1.out HZ2.out rfl (by decide) _ _ _ rfl (H0.out.alloc _) ⟨W.heap.size, 0, none⟩ 1 1 [.int .u8 125] rfl rfl (cell_one_new _ _ _) (by simp [Value.oneCell']) ?k1 ?k2 ?k3 ?_)
    case k1 => unfold maxLen; omega
    case k2 => omega
    case k3 => simp; omega
    intro v3 w3 own3 g3' _
    have own3 : w3.ownsRow w.heap.size 5 1 v3 (S.length + 1) (Lib.byteCells (S ++ [125])) := by rw [bcells_app]; exact own3
    have hr := row_at (H0.out.alloc (.cells #[.int .u8 125] 5))
    have ko : KeepsOthers W w3 := (KeepsOthers.alloc _ _).trans (KeepsOthers.of_grownBy g3' fun j o ej hj => by
      obtain ⟨_, c, fz, hc⟩ := hr j ej
      rw [hc] at hj; cases hj; rfl)
    have hK3 := ko.same D _ HK.out rfl
    have hB3 : Below w.heap.size w w3 := (HB.out.alloc hbs _).grown g3' (by simp; omega) (fun i e => (hr i e).1)
    have hC := fun ty => str_of_row (P := Tryz.prog) (src := 56) (dst := ty) own3 Tryz.underlying56 Tryz.underlying5
    have hC := hC 9 Tryz.underlying9
    have B3 := Lib.hid hB3
    have K3 := Lib.hid hK3
    clear own3 g3' hr ko hK3 hB3 H0 c3 f3 hv
    gi_wp2
    refine ⟨by simp, .inl ⟨_, _, rfl, run_takeDeferred K3.out, ?_⟩⟩
    exact ⟨_, results_tmp rfl _ _ _, by rw [HS.out]; rfl, B3.out.trans (belowK_b (w := w) (Nat.le_refl _) w3 D _ _ (by rw [hsz] at hD; omega) K3.out rfl rfl)⟩
  case stop =>
    rintro D c pre W _ _ h _
    exact h.elim
end Go.Proofs.YtgldieboflmnhaaGreatDoor
/- braces.Text of a set's items; label.Text. -/
namespace Go.Proofs.YtgldieboflmnhaaGreatDoor
open Go Go.Proofs Go.RowKit Go.Shelf
set_option maxRecDepth 100000
theorem seqJ_map {α β : Type} (f : α → β) {T : TypeId} {F : Fence} {n : Nat} {P : Program} {g : Nat} {lb : Array Value} {encs : β → Array Value} {n₀ : Nat} {zs : List α} {w : World} (h : SeqStopsJ T F n P g lb (fun x => encs (f x)) n₀ (fun ys => ys = zs) (fun pre => pre <+: zs) zs.length w) :
    SeqStopsJ T F n P g lb encs n₀ (fun ys => ys = zs.map f) (fun pre => pre <+: zs.map f) (zs.map f).length w := by
  intro l J Jx W hW hJ hJx hY h0
  refine (h l (fun p => J (p.map f)) (fun p => Jx (p.map f)) W hW (fun s => hJ (s.map f)) (fun s => hJx (s.map f)) (fun pre x W1 hj hl => ?_) h0).mono ?_
  · have := hY (pre.map f) (f x) W1 hj (by simpa using hl)
    simpa only [List.map_append, List.map_cons, List.map_nil] using this
  · rintro e W' ⟨he, hq⟩
    refine ⟨he, ?_⟩
    rcases hq with ⟨xs, hx, hj⟩ | ⟨pre, hp, hj⟩
    · exact .inl ⟨_, congrArg (List.map f) hx, hj⟩
    · exact .inr ⟨_, hp.map f, hj⟩
theorem runI_toI (zs : List SLab) : runI (zs.map toI) = runS zs := by
  unfold runI runS
  rw [List.foldl_map]
  congr 1
  funext s x
  unfold iStep lStep itT labT toI labI quoR
  simp
theorem litems_any (a : Option Addr) (len cap : Nat) (w : World) :
    Calls Tryz.prog 40 #[.slice a len cap] w fun e w' => e = .returned (.func (.func 55) #[] #[.pointer (some ⟨w.heap.size, 0, none⟩)]) ∧ w' = w.alloc (.cells #[.slice a len cap] 23) := by
  go_enter Tryz.func40, Tryz.ntmps40
  go_wp2
  go_ret
  exact ⟨rfl, rfl⟩
set_option maxHeartbeats 1000000 in
theorem ltext_any (a : Option Addr) (len cap : Nat) (zs : List SLab) (hreach : zs.length ≤ 100) (w : World) (hI : Labs w.heap.size w (.slice a len cap) zs) :
    Calls Tryz.prog 24 #[.slice a len cap] w fun e w' => e = .returned (.string ⟨((runS zs).1 ++ [125]).toArray⟩) ∧ Below w.heap.size w w' := by
  have hb := below_cells (w := w) (.cells #[.slice a len cap] 23)
  have D := At.new w #[.slice a len cap] 23
  have HI : Labs (w.alloc (.cells #[.slice a len cap] 23)).heap.size (w.alloc (.cells #[.slice a len cap] 23)) (.slice a len cap) zs := by
    have h := hI.below hb
    rcases h with e | ⟨b, off, c, e, h1, h2⟩
    · exact .inl e
    · exact .inr ⟨b, off, c, e, Nat.lt_of_lt_of_le h1 hb.size, h2⟩
  have hT := btext_any 55 #[.pointer (some ⟨w.heap.size, 0, none⟩)] (zs.map toI) (by simpa using hreach) (w.alloc (.cells #[.slice a len cap] 23)) (enters_of Tryz.func55 (by kernel_rfl) rfl) (seqJ_map (encs := fun x : SItm => #[itmV x.1]) toI (items_stops w.heap.size (w.alloc (.cells #[.slice a len cap] 23)).heap.size (.slice a len cap) zs (by omega) (w.alloc (.cells #[.slice a len cap] 23)) (Nat.le_refl _) (by simp) (D.cell 0 _ rfl) HI))
  rw [runI_toI] at hT
  have HC := Lib.hid hT
  have HB := Lib.hid hb
  clear hI hb D HI hT
  go_enter Tryz.func24, Tryz.ntmps24
  go_wp2_with fail
  refine (litems_any a len cap w).mono ?_
  rintro e w1 ⟨rfl, rfl⟩
  go_wp2_with fail
  refine HC.out.mono ?_
  rintro e w2 ⟨rfl, hb⟩
  go_wp2
  go_ret
  exact ⟨rfl, below_then HB.out hb⟩
end Go.Proofs.YtgldieboflmnhaaGreatDoor
