/- store: cells: the panes of a series between two ends, as an iterator. -/
import Derived.Test.YtedcdhngiofpjaaGreatDoorTh1
namespace Go.Proofs.YtedcdhngiofpjaaGreatDoor
open Go Go.Proofs Go.RowKit Go.Shelf
set_option maxRecDepth 100000
attribute [local go_sem] Oper.semAt_some
theorem cells_any14 (b : Nat) (a : Option Addr) (n c : Nat) (f t : Int) (w : World) :
    Calls Tryz.prog 49 #[.pointer (some ⟨b, 0, none⟩), .slice a n c, .int .i64 f, .int .i64 t] w fun e w' => e = .returned (.func (.func 86) #[] #[.pointer (some ⟨w.heap.size + 1, 0, none⟩), .pointer (some ⟨w.heap.size, 0, none⟩), .pointer (some ⟨w.heap.size + 2, 0, none⟩), .pointer (some ⟨w.heap.size + 3, 0, none⟩)]) ∧
      w' = (((w.alloc (.cells #[.pointer (some ⟨b, 0, none⟩)] 27)).alloc (.cells #[.slice a n c] 24)).alloc (.cells #[.int .i64 f] 2)).alloc (.cells #[.int .i64 t] 2) := by
  go_enter Tryz.func49, Tryz.ntmps49
  go_wp2
  go_ret
  exact ⟨rfl, rfl⟩
theorem seqG_depth {σ γ α : Type} {n n' : Nat} {P : Program} {g : Nat} {lb : Array Value} {encs : α → Array Value} {Mo : γ → List Nat} {nx : σ → Option (α × σ)} {Pre : σ → γ → World → Prop} {s0 : σ} {w : World} (h : SeqG Fence.wide n P g lb encs Mo nx Pre s0 w) : SeqG Fence.wide n' P g lb encs Mo nx Pre s0 w := by
  intro l J Jx W c0 hW hJ hJx hlt hPre hY h0
  exact callsIn_wide.2 (callsIn_wide.1 (h l J Jx W c0 hW hJ hJx hlt hPre (fun s x s' c W1 q1 q2 => yield_depth (hY s x s' c W1 q1 q2)) h0))
def nxP : List (Int × Pa) → Option ((Int × Pa) × List (Int × Pa))
  | [] => none
  | x :: r => some (x, r)
/-- the panes between two ends -/
def btw (f t : Int) (ps : List (Int × Pa)) : List (Int × Pa) := ps.filter fun e => decide (f < e.1) && decide (e.1 ≤ t)
def rngP (S : Sto) (zs : List SLab) (f t : Int) : List (Int × Pa) := match getL S.ss (textL zs) with | some s => btw f t s.ps | none => []
/-- what the iterator needs of memory -/
structure CeP (S : Sto) (zs : List SLab) (sv : Value) (f t : Int) (bl bs bf bt : Nat) (W : World) : Prop where
  l : Boxed W bl 24 sv
  s : Boxed W bs 27 (.pointer (some ⟨S.b, 0, none⟩))
  f : Boxed W bf 2 (.int .i64 f)
  t : Boxed W bt 2 (.int .i64 t)
  lab : Labs W.heap.size W sv zs
  st : StAt W S
theorem ser_get_any {S : Sto} {k : List UInt8} (w : World) (h : StAt w S) :
    Calls Tryz.prog 88 #[.pointer (some ⟨S.b, 1, none⟩), .string ⟨List.toArray k⟩] w fun e w' => e = .returned (match getL S.ss k with | some s => .tuple #[.pointer (some ⟨s.sb, 0, none⟩), .bool true] | none => .tuple #[.pointer none, .bool false]) ∧ Below w.heap.size w w' := by
  have hle : (entsS S.ss).length = S.ss.length := by unfold entsS; simp
  have hcv : w.cell? ⟨S.b, 1, none⟩ = some S.v := (cell_of_row w S.b 1 _ _ _ h.blk).trans rfl
  have HN := Lib.hid (placeS_map S.b 1 S.v (entsS S.ss) S.O (by have := h.len; omega) k (posL ltS (entsS S.ss) k) (pos_le _ _) (pos_iff stoS (entsS_srt h.srt) k) w hcv h.map)
  cases hg : getL S.ss k with
  | none =>
    have hge : getL (entsS S.ss) k = none := by rw [sget_ents, hg]; rfl
    obtain ⟨q1, _⟩ := at_pos_none stoS (entsS_srt h.srt) hge
    have hh : hereS (entsS S.ss) (posL ltS (entsS S.ss) k) k = false := by
      unfold hereS
      rw [q1]
      split
      · rename_i x hx
        have := hi_lt x (List.mem_of_head? hx)
        simp only [decide_eq_false_iff_not]
        rintro rfl
        rw [stoS.irr] at this; cases this
      · rfl
    rw [hh] at HN
    clear h hcv hh q1
    go_enter Tryz.func88, Tryz.ntmps88
    go_wp2_with fail
    refine HN.out.mono ?_
    rintro e w1 ⟨rfl, hb1⟩
    have HB := Lib.hid hb1
    clear hb1
    go_wp2
    go_ret2
    exact ⟨rfl, HB.out⟩
  | some s =>
    have hge : getL (entsS S.ss) k = some s.sb := by rw [sget_ents, hg]; rfl
    obtain ⟨q1, _⟩ := at_pos_some stoS (entsS_srt h.srt) hge
    have hh : hereS (entsS S.ss) (posL ltS (entsS S.ss) k) k = true := by unfold hereS; rw [q1]; simp
    have hpl := (List.getElem?_eq_some_iff.1 q1).1
    rw [hh] at HN
    rcases h.map with ⟨e0, _⟩ | ⟨h1, R, E, cap, _, hv, h3, h4⟩
    · rw [e0] at hpl; cases hpl
    rw [hv] at hcv
    have HF := Lib.hid (show ∀ W, Below w.heap.size w W → W.cell? ⟨S.b, 1, none⟩ = some (.slice (some ⟨R, 0, none⟩) 1 1) ∧ W.cell? ⟨R, 0, none⟩ = some (.slice (some ⟨E, 0, none⟩) (entsS S.ss).length cap) ∧ W.cell? ⟨E, posL ltS (entsS S.ss) k * 2 + 1, none⟩ = some (.pointer (some ⟨s.sb, 0, none⟩)) from fun W hb =>
      ⟨(hb.cell (p := ⟨S.b, 1, none⟩) (World.block_lt_of_cell? w _ hcv)).trans hcv, (hb.cell (p := ⟨R, 0, none⟩) (Array.getElem?_eq_some_iff.1 h3).1).trans ((cell_of_row w R 0 _ _ _ h3).trans rfl), ((h4.below hb).cell q1).2⟩)
    generalize posL ltS (entsS S.ss) k = p at *
    have d1 : (p : Int) < ((entsS S.ss).length : Int) := by omega
    have d2 : (0 : Int) ≤ (p : Int) := by omega
    generalize (entsS S.ss).length = ln at *
    clear h hcv hh q1 h3 h4 hv hge
    go_enter Tryz.func88, Tryz.ntmps88
    go_wp2_with fail
    refine HN.out.mono ?_
    rintro e w1 ⟨rfl, hb1⟩
    obtain ⟨c1, c2, c3⟩ := HF.out w1 hb1
    have HB := Lib.hid hb1
    clear hb1 HF HN
    go_wp2
    go_ret2
    exact ⟨rfl, HB.out⟩
end Go.Proofs.YtedcdhngiofpjaaGreatDoor
/- store: the panes' iterator: its contract. -/
namespace Go.Proofs.YtedcdhngiofpjaaGreatDoor
open Go Go.Proofs Go.RowKit Go.Shelf
set_option maxRecDepth 100000
attribute [local go_sem] Oper.semAt_some
theorem CeP.same {S : Sto} {zs : List SLab} {sv : Value} {f t : Int} {bl bs bf bt : Nat} {A A' : World} (h : CeP S zs sv f t bl bs bf bt A) (hb : Below A.heap.size A A') : CeP S zs sv f t bl bs bf bt A' :=
  ⟨(hb.block _ h.l.lt).trans h.l, (hb.block _ h.s.lt).trans h.s, (hb.block _ h.f.lt).trans h.f, (hb.block _ h.t.lt).trans h.t, labs_on h.lab hb, h.st.below hb⟩
/-- the slots in a round -/
abbrev CeT (S : Sto) (L : Nat) (bl bs bf bt yb : Nat) (a : Option Addr) (n c : Nat) (zs : List SLab) (f : Int) (s : Sr) (m : Nat) (k : Int) (b : Nat) : Array Value :=
  #[.func (.yield L) #[] #[], .pointer (some ⟨bl, 0, none⟩), .pointer (some ⟨bs, 0, none⟩), .pointer (some ⟨bf, 0, none⟩), .pointer (some ⟨bt, 0, none⟩), .pointer (some ⟨yb, 0, none⟩), .pointer (some ⟨s.sb, 0, none⟩), .bool true, .int .i64 k, .pointer (some ⟨b, 0, none⟩), .slice a n c, .int .i64 0, .bool false,
    .tuple #[.pointer (some ⟨s.sb, 0, none⟩), .bool true], .pointer (some ⟨S.b, 0, none⟩), .pointer (some ⟨S.b, 0, none⟩), .pointer (some ⟨S.b, 1, none⟩), .slice a n c, .string ⟨((runS zs).1 ++ [125]).toArray⟩, .tuple #[.pointer (some ⟨s.sb, 0, none⟩), .bool true], .pointer (some ⟨s.sb, 0, none⟩), .bool true, .bool true, .bool false,
    .pointer (some ⟨s.sb, 0, none⟩), .pointer (some ⟨s.sb, 0, none⟩), .pointer (some ⟨s.sb, 1, none⟩), .int .i64 f, .func (.func 83) #[] #[.pointer (some ⟨m, 0, none⟩), .pointer (some ⟨m + 1, 0, none⟩)], .int .i64 k, .pointer (some ⟨b, 0, none⟩), undef, undef, undef, undef, undef, undef, undef, undef, undef]
/-- ahead of a round -/
structure CeI {γ : Type} (Mo : γ → List Nat) (J : List (Int × Pa) → γ → World → Prop) (s : Sr) (L : Nat) (t : Int) (yb mb ze : Nat) (k : Int) (r : List EnI) (c : γ) (V : World) (rest : List (Int × Pa)) : Prop where
  rs : rest = hiL ltI s.ps k
  ents : entsI rest = r
  j : J (rest.filter fun e => decide (e.1 ≤ t)) c V
  y : Boxed V yb 167 (.func (.yield L) #[] #[])
  m : Boxed V mb 149 (.pointer (some ⟨s.sb, 1, none⟩))
  mo : ∀ j ∈ Mo c, j < yb ∨ ze ≤ j
  ze : ze ≤ V.heap.size
theorem filt_btw (f t : Int) (ps : List (Int × Pa)) : (hiL ltI ps f).filter (fun e => decide (e.1 ≤ t)) = btw f t ps := by
  unfold hiL btw ltI
  rw [List.filter_filter]
  congr 1
  funext e
  exact Bool.and_comm _ _
set_option maxHeartbeats 8000000 in
theorem cells_stops {γ : Type} (Mo : γ → List Nat) (S : Sto) (zs : List SLab) (a : Option Addr) (n c : Nat) (f t : Int) (bl bs bf bt : Nat) (hz : zs.length ≤ 100) (hck : checkR zs = 0) (w : World) :
    SeqG Fence.wide 8 Tryz.prog 86 #[.pointer (some ⟨bl, 0, none⟩), .pointer (some ⟨bs, 0, none⟩), .pointer (some ⟨bf, 0, none⟩), .pointer (some ⟨bt, 0, none⟩)] (fun x : Int × Pa => #[.pointer (some ⟨x.2.blk, 0, none⟩)]) Mo nxP (fun _ (_ : γ) W => CeP S zs (.slice a n c) f t bl bs bf bt W) (rngP S zs f t) w := by
  intro L J Jx W c0 hW hJ hJx hlt hPre hY h0
  obtain ⟨W1, hW1⟩ : ∃ W1, W1 = W.alloc (.cells #[.func (.yield L) #[] #[]] 167) := ⟨_, rfl⟩
  have hb1 : Below W.heap.size W W1 := by rw [hW1]; exact below_cells _
  have hc1 := (hPre _ _ _ h0).same hb1
  have hy1 : Boxed W1 W.heap.size 167 (.func (.yield L) #[] #[]) := by rw [hW1]; exact Boxed.new W _ _
  have HCh := Lib.hid (check_any a n c zs hz W1 hc1.lab)
  rw [hck] at HCh
  have l1 : (W.alloc (.cells #[.func (.yield L) #[] #[]] 167)).cell? ⟨bl, 0, none⟩ = some (.slice a n c) := by rw [← hW1]; exact hc1.l.cell
  have HJ := Lib.hid hJ
  have HJx := Lib.hid hJx
  have HP := Lib.hid hPre
  have HY := Lib.hid hY
  have H0 := Lib.hid h0
  have HL := Lib.hid hlt
  have HC1 := Lib.hid hc1
  have HY1 := Lib.hid hy1
  have HB1 := Lib.hid hb1
  clear hJ hJx hPre hY h0 hlt hW hc1 hy1 hb1
  refine callsIn_of_wp_marks Tryz.func86 rfl trivial ?_ rfl
  simp only [Tryz.ntmps86, List.size_toArray, List.length_cons, List.length_nil, Nat.reduceAdd, Nat.reduceSub, Array.replicate_succ, Array.replicate_zero, List.push_toArray, List.append_toArray, List.nil_append, List.cons_append]
  gi_wp2_with fail
  rw [← hW1]
  refine ⟨trivial, (callsIn_wide.2 HCh.out).mono ?_⟩
  rintro e w2 ⟨rfl, hb2⟩
  have hc2 := HC1.out.same hb2
  have HB2 := Lib.hid (HB1.out.trans (hb2.mono HB1.out.size))
  have HY2 := Lib.hid (show Boxed w2 W.heap.size _ _ from (hb2.block _ HY1.out.lt).trans HY1.out)
  have HT := Lib.hid (fun W (hW : Labs W.heap.size W (.slice a n c) zs) => ltext_any a n c zs hz W hW)
  have HG := Lib.hid (fun W (hW : StAt W S) => ser_get_any (k := textL zs) W hW)
  clear HCh hb2 HC1 HY1 l1 HB1 hW1
  gi_wp2_with fail
  refine wpIn_mono ?_ NoPanic.imp
  refine region_anyM (S := fun u => CeP S zs (.slice a n c) f t bl bs bf bt u) 10 (by kernel_rfl) (fun hS => ?_) (show CeP S zs (.slice a n c) f t bl bs bf bt w2.drew from ⟨hc2.l, hc2.s, hc2.f, hc2.t, hc2.lab, hc2.st.keep (fun _ _ => rfl)⟩)
  clear hc2
  refine anyM_c 0 [0, 10] hS (fun u h => h.s.cell) ?_
  refine anyM_d 1 [1, 10] hS ?_
  refine anyM_d 2 [2, 10] hS ?_
  refine anyM_c 3 [3, 10] hS (fun u h => h.l.cell) ?_
  refine anyM_o 4 (fun K hK => ?_)
  go_simp
  refine ⟨trivial, ?_⟩
  refine (callsIn_wide.2 (HT.out _ hS.lab)).mono ?_
  rintro e w3 ⟨rfl, hb3⟩
  have hM1 := hS.same hb3
  have HB3 := Lib.hid (show Below W.heap.size W w3 from HB2.out.drew.trans (hb3.mono HB2.out.size))
  have HY3 := Lib.hid (show Boxed w3 W.heap.size _ _ from (hb3.block _ HY2.out.lt).trans HY2.out)
  dsimp only
  refine hK _ _ hM1 ?_
  clear hS
  have hS := hM1
  clear hM1 hK K hb3 HT HB2 HY2
  refine anyM_o 5 (fun K hK => ?_)
  go_simp
  refine ⟨trivial, ?_⟩
  refine (callsIn_wide.2 (HG.out _ hS.st)).mono ?_
  rintro e w4 ⟨rfl, hb4⟩
  have hM1 := hS.same hb4
  have HB4 := Lib.hid (show Below W.heap.size W w4 from HB3.out.trans (hb4.mono HB3.out.size))
  have HY4 := Lib.hid (show Boxed w4 W.heap.size _ _ from (hb4.block _ HY3.out.lt).trans HY3.out)
  have HJ4 := Lib.hid (show J (rngP S zs f t) c0 w4 from HJ.out _ _ _ _ H0.out (Same.below HB4.out))
  have HC4 := Lib.hid hM1
  unfold rngP at HJ4
  cases hg : getL S.ss (textL zs) with
  | none =>
    rw [hg] at HJ4
    dsimp only
    refine hK _ _ hM1 ?_
    clear hM1 hK K hS HG HB3 HY3 hb4
    have hS := HC4.out
    refine anyM_d 6 [6, 10] hS ?_
    refine anyM_d 7 [7, 10] hS ?_
    refine anyM_d 8 [8, 10] hS ?_
    refine anyM_d 9 [9, 10] hS ?_
    refine anyM_l (fun K hK => ?_)
    go_simp
    refine hK _ _ ?_
    clear hK K
    refine anyIn_done (by kernel_rfl) ?_ _
    refine NoPanic.normal ?_
    gi_wp2
    exact ⟨_, by simp [results, Tryz.results86, go_sem]; try rfl, ⟨_, rfl⟩, .inl ⟨[], rfl, c0, HJ4.out⟩⟩
  | some s =>
    rw [hg] at HJ4
    dsimp only
    refine hK _ _ hM1 ?_
    clear hM1 hK K hS HG HB3 HY3 hb4
    have hS := HC4.out
    refine anyM_d 6 [6, 10] hS ?_
    refine anyM_d 7 [7, 10] hS ?_
    refine anyM_d 8 [8, 10] hS ?_
    refine anyM_d 9 [9, 10] hS ?_
    refine anyM_l (fun K hK => ?_)
    go_simp
    refine hK _ _ ?_
    clear hK K
    refine anyIn_done (by kernel_rfl) ?_ _
    refine NoPanic.normal ?_
    have hms : (textL zs, s) ∈ S.ss := by
      rcases cut_at14 stoS S.ss (textL zs) hS.st.srt with ⟨v, q1, q2⟩ | ⟨q1, _⟩
      · rw [hg] at q1
        obtain rfl : s = v := by simpa using q1
        rw [q2]; simp
      · rw [hg] at q1; cases q1
    have f1 := hS.f.cell
    have HAb : Hid (Calls Tryz.prog 45 #[.pointer (some ⟨s.sb, 1, none⟩), .int .i64 f] w4.drew fun e w' => e = .returned (.func (.func 83) #[] #[.pointer (some ⟨w4.heap.size, 0, none⟩), .pointer (some ⟨w4.heap.size + 1, 0, none⟩)]) ∧ w' = (w4.drew.alloc (.cells #[.pointer (some ⟨s.sb, 1, none⟩)] 149)).alloc (.cells #[.int .i64 f] 2)) := aboveI_any (some ⟨s.sb, 1, none⟩) f w4.drew
    have HMs := Lib.hid hms
    clear hS hms
    gi_wp2_with fail
    refine wpIn_mono ?_ NoPanic.imp
    refine region_anyM (S := fun u => u.cell? ⟨bf, 0, none⟩ = some (.int .i64 f)) 4 (by kernel_rfl) (fun hS => ?_) (show w4.drew.cell? _ = _ from f1)
    refine anyM_d 0 [0, 1, 2, 4] hS ?_
    refine anyM_d 1 [1, 2, 4] hS ?_
    refine anyM_d 2 [2, 4] hS ?_
    refine anyM_d 3 [3, 4] hS ?_
    refine anyM_l (fun K hK => ?_)
    go_simp
    refine ⟨trivial, ?_⟩
    refine (callsIn_wide.2 HAb.out).mono ?_
    rintro e w5 ⟨rfl, hw5⟩
    have hb5 : Below w4.heap.size w4 w5 := by rw [hw5]; exact ((Below.refl _ w4).drew.alloc (Nat.le_refl _) _).alloc (by rw [World.size_alloc]; exact Nat.le_succ _) _
    have hs5 : w5.heap.size = w4.heap.size + 2 := by rw [hw5, World.size_alloc, World.size_alloc]; rfl
    have m5 : Boxed w5 w4.heap.size 149 (.pointer (some ⟨s.sb, 1, none⟩)) := by rw [hw5]; exact (Boxed.new w4.drew _ _).alloc _
    have k5 : Boxed w5 (w4.heap.size + 1) 2 (.int .i64 f) := by
      rw [hw5]
      have q := Boxed.new (w4.drew.alloc (.cells #[.pointer (some ⟨s.sb, 1, none⟩)] 149)) 2 (.int .i64 f)
      rw [World.size_alloc] at q
      exact q
    have j5 : J (btw f t s.ps) c0 w5 := HJ.out _ _ _ _ HJ4.out (Same.below hb5)
    have y5 : Boxed w5 W.heap.size 167 (.func (.yield L) #[] #[]) := (hb5.block _ HY4.out.lt).trans HY4.out
    have zW : W.heap.size < w4.heap.size := HY4.out.lt
    have hS5 := HC4.out.same hb5
    dsimp only
    refine hK _ _ ?_
    clear hK K hS HAb HJ4 HY4 hw5 f1
    refine anyIn_done (by kernel_rfl) ?_ _
    refine NoPanic.normal ?_
    gi_wp2
    refine rangeG (F := Fence.wide) (n := 8) rfl (by omega) (gf := 83) (lb := #[.pointer (some ⟨w4.heap.size, 0, none⟩), .pointer (some ⟨w4.heap.size + 1, 0, none⟩)]) rfl trivial (enters_of Tryz.func83 (by kernel_rfl) rfl)
      (seqG_depth (aboveI_stops Mo w4.heap.size (w4.heap.size + 1) s.sb 1 f (entsI (hiL ltI s.ps f)) w5 k5.cell)) (Below.refl _ _) (fun _ => rfl)
      (fun st c V => ∃ rest, CeI Mo J s L t W.heap.size w4.heap.size (w4.heap.size + 2) st.1 st.2 c V rest)
      (fun cd c V => (cd = .ret ∧ ∀ j ∈ Mo c, j < W.heap.size ∨ w4.heap.size + 2 ≤ j) ∧ (J [] c V ∨ Jx c V))
      c0 ?dI ?dX (fun j hj => by have := HL.out j hj; omega)
      ⟨_, rfl, rfl, by rw [filt_btw]; exact j5, y5, m5, fun j hj => .inl (HL.out j hj), by omega⟩ ?pre
      (fun x a' _ => a' = { tmps := CeT S L bl bs bf bt W.heap.size a n c zs f s w4.heap.size x.1 x.2, defers := [] })
      (fun x a' A A' hx _ => hx) ?assign ?body ?done ?stop
    case dI =>
      rintro st c A A' ⟨rest, q⟩ hsm
      exact ⟨rest, q.rs, q.ents, HJ.out _ _ _ _ q.j (hsm.mono (fun k hk => hk.imp (fun z => by omega) id)), boxed_same q.y hsm (by omega), boxed_same q.m hsm (by omega), q.mo, Nat.le_trans q.ze hsm.size⟩
    case dX =>
      rintro cd c A A' ⟨q, q2⟩ hsm
      have h2 : Same W.heap.size (Mo c) A A' := hsm.mono (fun k hk => hk.imp (fun z => by omega) id)
      exact ⟨q, q2.imp (fun z => HJ.out _ _ _ _ z h2) (fun z => HJx.out _ _ _ z h2)⟩
    case pre =>
      rintro st c V ⟨rest, q⟩
      have hp := HP.out _ _ _ q.j
      have hse := hp.st.ser _ HMs.out
      refine ⟨q.m.cell, s.pv, entsI s.ps, s.O, (cell_of_row V s.sb 1 _ _ _ hse.blk).trans rfl, hse.map, by unfold entsI; have q1 : s.ps.length ≤ 100 := hse.len; rw [List.length_map]; omega, ents_srt hse.srt, ?_⟩
      rw [← q.ents, q.rs, (ents_lo s.ps st.1).2]
    case assign =>
      rintro l' st x st' c V K hI hnx hmo hK
      simp only [enI]
      have HI := Lib.hid hI
      have HMo := Lib.hid hmo
      clear hI hmo
      gi_wp2
      exact hK _ _ (Step.refl HMo.out) HI.out rfl
    case body =>
      rintro l' ⟨k, r⟩ x st' c' a' V hl _ hmo ⟨rest, q⟩ hnx rfl
      obtain ⟨e0, rest', hrest⟩ : ∃ e0 rest', rest = e0 :: rest' := by
        cases z : rest with
        | nil =>
          have := q.ents
          rw [z] at this
          dsimp only at this
          rw [← this] at hnx
          cases hnx
        | cons e0 rest' => exact ⟨e0, rest', rfl⟩
      have he := q.ents
      dsimp only at he
      subst he
      rw [hrest] at hnx
      obtain ⟨rfl, rfl⟩ : (e0.1, e0.2.blk) = x ∧ (e0.1, entsI rest') = st' := by simpa [nxI, entsI] using hnx
      clear hnx
      have hp := HP.out _ _ _ q.j
      have hsr := (hp.st.ser _ HMs.out).srt
      have hrs' : rest' = hiL ltI s.ps e0.1 := by
        have h1 : hiL ltI s.ps k = e0 :: rest' := by rw [← q.rs, hrest]
        have h2 : Srt ltI (hiL ltI s.ps k) := List.Pairwise.filter _ hsr
        rw [h1] at h2
        have h3 := (List.pairwise_cons.1 h2).1
        have hk0 : ltI k e0.1 = true := hi_lt e0 (by rw [h1]; simp)
        have h4 : hiL ltI s.ps e0.1 = (hiL ltI s.ps k).filter (fun e => ltI e0.1 e.1) := by
          unfold hiL
          rw [List.filter_filter]
          apply List.filter_congr
          intro e _
          cases z : ltI e0.1 e.1
          · rfl
          · rw [stoI.trans _ _ _ hk0 z]; rfl
        rw [h4, h1, List.filter_cons_of_neg (by simp [stoI.irr]), List.filter_eq_self.2 (fun e he => h3 e he)]
      unfold CeT
      dsimp only
      have t1 := hp.t.cell
      have y1 := q.y.cell
      by_cases hT : t < e0.1
      · have hf : rest.filter (fun e => decide (e.1 ≤ t)) = [] := by
          rw [hrest]
          refine List.filter_eq_nil_iff.2 (fun e he => ?_)
          rcases List.mem_cons.1 he with rfl | he
          · simp; omega
          · rw [hrs'] at he
            have := hi_lt e he
            simp [ltI] at this
            simp; omega
        have hj := q.j
        rw [hf] at hj
        have HJ0 := Lib.hid hj
        have HMo := Lib.hid q.mo
        have HM := Lib.hid hmo
        clear q hj hp hsr hmo hrest hrs' hf
        gi_wp2_with fail
        refine ⟨(fun f h => nomatch h), ?_⟩
        gi_wp2
        exact ⟨c', ⟨⟨rfl, HMo.out⟩, .inl HJ0.out⟩, Step.refl HM.out⟩
      · have hf : rest.filter (fun e => decide (e.1 ≤ t)) = e0 :: rest'.filter (fun e => decide (e.1 ≤ t)) := by
          rw [hrest, List.filter_cons_of_pos (by simp; omega)]
        have hj := q.j
        rw [hf] at hj
        obtain ⟨fn, tmps, assign, body, hy', hR⟩ := yield_inRound l' (yield_depth (m' := 5) (HY.out (e0 :: rest'.filter (fun e => decide (e.1 ≤ t))) e0 (rest'.filter (fun e => decide (e.1 ≤ t))) c' V hj rfl))
        have HQ := Lib.hid q
        have HRs := Lib.hid hrs'
        clear q hj hp hsr hmo hrest hrs' hf
        gi_wp2
        refine hR.mono ?_
        clear hR hy' y1 t1
        rintro e V3 (⟨rfl, c2, hJ3, hst⟩ | ⟨rfl, c2, hJ3, hst⟩)
        · have HJ3 := Lib.hid hJ3
          have HSt := Lib.hid hst
          clear hJ3 hst
          gi_wp2
          have q := HQ.out
          have hst := HSt.out
          have hmo2 : ∀ j ∈ Mo c2, j < W.heap.size ∨ w4.heap.size + 2 ≤ j := fun j hj => by
            rcases hst.new j hj with z | z
            · exact q.mo j z
            · have := q.ze; exact .inr (by omega)
          have hnm : ∀ j, W.heap.size ≤ j → j < w4.heap.size + 2 → j ∉ Mo c' := fun j h1 h2 hm => by rcases q.mo j hm with z | z <;> omega
          exact ⟨c2, ⟨rest', HRs.out, rfl, HJ3.out, hst.same _ _ (Nat.le_refl _) (hnm _ (Nat.le_refl _) (by omega)) q.y, hst.same _ _ (by omega) (hnm _ (by omega) (by omega)) q.m, hmo2, Nat.le_trans q.ze hst.size⟩, hst.mono (by omega)⟩
        · have HJ3 := Lib.hid hJ3
          have HSt := Lib.hid hst
          clear hJ3 hst
          gi_wp2
          have q := HQ.out
          have hst := HSt.out
          have hmo2 : ∀ j ∈ Mo c2, j < W.heap.size ∨ w4.heap.size + 2 ≤ j := fun j hj => by
            rcases hst.new j hj with z | z
            · exact q.mo j z
            · have := q.ze; exact .inr (by omega)
          exact ⟨c2, ⟨⟨rfl, hmo2⟩, .inr HJ3.out⟩, hst.mono (by omega)⟩
    case done =>
      rintro D ⟨k, r⟩ c2 V hD hnx ⟨rest, q⟩ hDm hK
      have hr : rest = [] := by
        cases r with
        | nil =>
          have := q.ents
          dsimp only at this
          unfold entsI at this
          simpa using this
        | cons _ _ => cases hnx
      have hj := q.j
      rw [hr] at hj
      have HF := Lib.hid (show J [] c2 (V.putObj D (.deferred none)) from HJ.out _ _ _ _ hj (Same.put _ (by omega) hDm))
      clear q hnx hj
      gi_wp2
      refine ⟨by simp, .inl ⟨_, _, rfl, run_takeDeferred hK, ?_⟩⟩
      exact ⟨_, by simp [results, Tryz.results86, go_sem]; try rfl, ⟨_, rfl⟩, .inl ⟨[], c2, rfl, HF.out⟩⟩
    case stop =>
      rintro D cd c2 V hD ⟨⟨rfl, hmo⟩, hj⟩ hDm hK
      have HF := Lib.hid (show J [] c2 (V.putObj D (.deferred none)) ∨ Jx c2 (V.putObj D (.deferred none)) from hj.imp (fun z => HJ.out _ _ _ _ z (Same.put _ (by omega) hDm)) (fun z => HJx.out _ _ _ z (Same.put _ (by omega) hDm)))
      clear hj hmo
      gi_wp2
      refine ⟨by simp, .inl ⟨_, _, rfl, run_takeDeferred hK, ?_⟩⟩
      exact ⟨_, by simp [results, Tryz.results86, go_sem]; try rfl, ⟨_, rfl⟩, HF.out.imp (fun z => ⟨[], c2, rfl, z⟩) (fun z => ⟨c2, z⟩)⟩
end Go.Proofs.YtedcdhngiofpjaaGreatDoor
/- store: Range. -/
namespace Go.Proofs.YtedcdhngiofpjaaGreatDoor
open Go Go.Proofs Go.RowKit Go.Shelf
set_option maxRecDepth 100000
attribute [local go_sem] cell_set Oper.semAt_some
def foldP (ps : List (Int × Pa)) : Pn := ps.foldl (fun p e => mergeR p (ofR e.2.L)) Pn.zero
theorem foldP_snoc (ps : List (Int × Pa)) (e : Int × Pa) : foldP (ps ++ [e]) = mergeR (foldP ps) (ofR e.2.L) := by simp [foldP]
theorem foldP_of : ∀ ps : List (Int × Pa), foldP ps = ofR (ps.flatMap fun e => e.2.L) := list_snoc rfl (fun l x ih => by rw [foldP_snoc, ih, List.flatMap_append, ofR_app]; simp)
theorem flat_len (ps : List (Int × Pa)) (h : ∀ e ∈ ps, e.2.L.length ≤ 100) : (ps.flatMap fun e => e.2.L).length ≤ ps.length * 100 := by
  induction ps with
  | nil => simp
  | cons e t ih =>
    have h1 := h e (by simp)
    have h2 := ih (fun x hx => h x (by simp [hx]))
    rw [List.flatMap_cons, List.length_append, List.length_cons]
    omega
theorem foldP_bd (ps : List (Int × Pa)) (h : ∀ e ∈ ps, OkP e) (hl : ps.length ≤ 100) : Bd (ps.flatMap fun e => e.2.L).length (foldP ps) := by
  rw [foldP_of]
  refine ofR_bd _ (fun x hx => ?_) ?_
  · obtain ⟨e, he, hx⟩ := List.mem_flatMap.1 hx
    exact (h e he).i64 x hx
  · have := flat_len ps (fun e he => (h e he).len)
    omega
theorem range_bad14 (S : Sto) (hg : 1 ≤ S.grid) (a : Option Addr) (n c : Nat) (f t : Int) (hb : endsR S.grid f t = 1) (w : World) (h : StAt w S) :
    CallsIn Fence.wide 9 Tryz.prog 19 #[.pointer (some ⟨S.b, 0, none⟩), .slice a n c, .int .i64 f, .int .i64 t] w fun e w' => e = .returned (.tuple #[Pn.zero.V, .int .i64 1]) ∧ Below w.heap.size w w' := by
  obtain ⟨W1, hW1⟩ : ∃ W1, W1 = w.alloc (.cells (pnC Pn.zero).toArray 55) := ⟨_, rfl⟩
  have hb1 : Below w.heap.size w W1 := by rw [hW1]; exact below_cells _
  have HC := Lib.hid (check_any14 S hg f t W1 (h.below hb1))
  rw [hb] at HC
  have A1 : At W1 w.heap.size (pnC Pn.zero) := by rw [hW1]; exact At.new w _ _
  have HB1 := Lib.hid hb1
  clear h hb hb1
  unfold Pn.V pnC at *
  have f1 := A1.f9
  dsimp only [Pn.zero] at *
  refine callsIn_of_wp_marks Tryz.func19 rfl trivial ?_ rfl
  simp only [Tryz.ntmps19, List.size_toArray, List.length_cons, List.length_nil, Nat.reduceAdd, Nat.reduceSub, Array.replicate_succ, Array.replicate_zero, List.push_toArray, List.append_toArray, List.nil_append, List.cons_append]
  gi_wp2_with fail
  rw [← hW1]
  refine ⟨trivial, (callsIn_wide.2 HC.out).mono ?_⟩
  rintro e w2 ⟨rfl, rfl⟩
  clear hW1 A1
  gi_wp2
  refine ⟨_, by simp [results, Tryz.results19, go_sem, f1]; rfl, ?_⟩
  have := HB1.out
  exact ⟨rfl, ((((((((this.setCell (Nat.le_refl _) _).setCell (Nat.le_refl _) _).setCell (Nat.le_refl _) _).setCell (Nat.le_refl _) _).setCell (Nat.le_refl _) _).setCell (Nat.le_refl _) _).setCell (Nat.le_refl _) _).setCell (Nat.le_refl _) _).setCell (Nat.le_refl _) _⟩
end Go.Proofs.YtedcdhngiofpjaaGreatDoor
