/- store: Twin. -/
import Derived.Test.YtedcdhngiofpjaaGreatDoorTj1
namespace Go.Proofs.YtedcdhngiofpjaaGreatDoor
open Go Go.Proofs Go.RowKit Go.Shelf
set_option maxRecDepth 100000
attribute [local go_sem] cell_set Oper.semAt_some
/-- the slots in a round over the series -/
abbrev TwU (S : Sto) (N tb m : Nat) (k : List UInt8) (b : Nat) : Array Value :=
  #[.pointer (some ⟨S.b, 0, none⟩), undef, .pointer none, .pointer (some ⟨N, 0, none⟩), .string ⟨List.toArray k⟩, .pointer (some ⟨b, 0, none⟩), undef, undef, undef, .pointer (some ⟨S.b, 0, none⟩), .pointer (some ⟨S.b, 0, none⟩), .pointer (some ⟨S.b, 0, none⟩), .int .i64 S.grid,
    .pointer (some ⟨S.b, 0, none⟩), .pointer (some ⟨S.b, 0, none⟩), .pointer (some ⟨S.b, 2, none⟩), .int .i64 S.n, .agg #[.int .i64 S.grid, .slice none 0 0, .int .i64 S.n], .pointer (some ⟨tb, 0, none⟩), .pointer (some ⟨S.b, 0, none⟩), .pointer (some ⟨S.b, 0, none⟩), .pointer (some ⟨S.b, 1, none⟩),
    .func (.func 78) #[] #[.pointer (some ⟨m, 0, none⟩), .pointer (some ⟨m + 1, 0, none⟩)], .string ⟨List.toArray k⟩, .pointer (some ⟨b, 0, none⟩), undef, undef, undef, undef, undef, undef, undef, undef, undef, undef, undef, undef, undef, undef, undef, undef, undef, undef, undef, undef, undef, undef, undef, undef, undef, undef, undef, undef]
/-- the slots in a round over a series' panes -/
abbrev TwV (S : Sto) (N tb m N2 M mi sb : Nat) (key : List UInt8) (lv : Value) (k : Int) (b : Nat) : Array Value :=
  #[.pointer (some ⟨S.b, 0, none⟩), undef, .pointer none, .pointer (some ⟨N, 0, none⟩), .string ⟨List.toArray key⟩, .pointer (some ⟨sb, 0, none⟩), .pointer (some ⟨M, 0, none⟩), .int .i64 k, .pointer (some ⟨b, 0, none⟩), .pointer (some ⟨S.b, 0, none⟩), .pointer (some ⟨S.b, 0, none⟩), .pointer (some ⟨S.b, 0, none⟩), .int .i64 S.grid,
    .pointer (some ⟨S.b, 0, none⟩), .pointer (some ⟨S.b, 0, none⟩), .pointer (some ⟨S.b, 2, none⟩), .int .i64 S.n, .agg #[.int .i64 S.grid, .slice none 0 0, .int .i64 S.n], .pointer (some ⟨tb, 0, none⟩), .pointer (some ⟨S.b, 0, none⟩), .pointer (some ⟨S.b, 0, none⟩), .pointer (some ⟨S.b, 1, none⟩),
    .func (.func 78) #[] #[.pointer (some ⟨m, 0, none⟩), .pointer (some ⟨m + 1, 0, none⟩)], .string ⟨List.toArray key⟩, .pointer (some ⟨sb, 0, none⟩), .pointer (some ⟨tb, 0, none⟩), .pointer (some ⟨tb, 0, none⟩), .pointer (some ⟨tb, 1, none⟩), .string ⟨List.toArray key⟩, .pointer (some ⟨N2, 0, none⟩), .pointer (some ⟨N2, 0, none⟩),
    .pointer (some ⟨sb, 0, none⟩), .pointer (some ⟨sb, 0, none⟩), .pointer (some ⟨sb, 0, none⟩), lv, .pointer (some ⟨N2, 0, none⟩), .pointer (some ⟨N2, 0, none⟩), .pointer (some ⟨sb, 0, none⟩), .pointer (some ⟨sb, 0, none⟩), .pointer (some ⟨sb, 1, none⟩),
    .func (.func 83) #[] #[.pointer (some ⟨mi, 0, none⟩), .pointer (some ⟨mi + 1, 0, none⟩)], .int .i64 k, .pointer (some ⟨b, 0, none⟩), undef, undef, undef, undef, undef, undef, undef, undef, undef, undef]
set_option maxHeartbeats 16000000 in
theorem twin_wd (S : Sto) (w : World) (h : StAt w S) :
    CallsIn Fence.wide 9 Tryz.prog 14 #[.pointer (some ⟨S.b, 0, none⟩)] w fun e w' => ∃ T : Sto, e = .returned (.pointer (some ⟨T.b, 0, none⟩)) ∧ StAt w' T ∧ T.grid = S.grid ∧ T.n = S.n ∧ T.ss.map con = S.ss.map con ∧ (∀ x ∈ T.own, w.heap.size ≤ x) ∧ (∀ e ∈ T.ss, ∃ e' ∈ S.ss, e'.2.lv = e.2.lv) ∧ Below w.heap.size w w' := by
  refine callsIn_of_wp_marks Tryz.func14 rfl trivial ?_ rfl
  simp only [Tryz.ntmps14, List.size_toArray, List.length_cons, List.length_nil, Nat.reduceAdd, Nat.reduceSub, Array.replicate_succ, Array.replicate_zero, List.push_toArray, List.append_toArray, List.nil_append, List.cons_append]
  have hb := h.blk
  have HH := Lib.hid h
  clear h
  gi_wp2_with fail
  rename_i Q1 K1 hK1
  have HK : ∀ (N tb : Nat) (u : World), w.heap.size ≤ N → w.heap.size ≤ tb → Boxed u N 27 (.pointer (some ⟨tb, 0, none⟩)) → u.heap[tb]? = some (.cells #[.int .i64 S.grid, .slice none 0 0, .int .i64 S.n] TSto (0, 0)) → Below w.heap.size w u →
      K1 { tmps := #[.pointer (some ⟨S.b, 0, none⟩), undef, .pointer none, .pointer (some ⟨N, 0, none⟩), undef, undef, undef, undef, undef, .pointer (some ⟨S.b, 0, none⟩), .pointer (some ⟨S.b, 0, none⟩), .pointer (some ⟨S.b, 0, none⟩), .int .i64 S.grid,
        .pointer (some ⟨S.b, 0, none⟩), .pointer (some ⟨S.b, 0, none⟩), .pointer (some ⟨S.b, 2, none⟩), .int .i64 S.n, .agg #[.int .i64 S.grid, .slice none 0 0, .int .i64 S.n], .pointer (some ⟨tb, 0, none⟩), undef, undef, undef, undef, undef, undef, undef, undef, undef, undef, undef, undef, undef, undef, undef, undef, undef, undef, undef,
        undef, undef, undef, undef, undef, undef, undef, undef, undef, undef, undef, undef, undef, undef, undef], defers := [] } u := by
    intro N tb u hN htb hBN hBt hB
    refine hK1 _ _ ?_
    clear hK1
    have HAb := Lib.hid (fun W => aboveS_any (some ⟨S.b, 1, none⟩) [] W)
    have H0 := Lib.hid (And.intro hN (And.intro htb (And.intro hBN (And.intro hBt hB))))
    clear hN htb hBN hBt hB hb
    gi_wp2_with fail
    refine ⟨trivial, (callsIn_wide.2 (HAb.out _)).mono ?_⟩
    rintro e w1 ⟨rfl, rfl⟩
    clear HAb
    gi_wp2
    obtain ⟨hN, htb, hBN, hBt, hB⟩ := H0.out
    clear H0
    obtain ⟨W0, hW0⟩ : ∃ W0, (u.alloc (.cells #[.pointer (some ⟨S.b, 1, none⟩)] 138)).alloc (.cells #[.string ⟨List.toArray []⟩] 9) = W0 := ⟨_, rfl⟩
    rw [hW0]
    have hs0 : W0.heap.size = u.heap.size + 2 := by rw [← hW0]; simp
    have hb0 : Below u.heap.size u W0 := by rw [← hW0]; go_grown
    have B1 : Boxed W0 u.heap.size 138 (.pointer (some ⟨S.b, 1, none⟩)) := by rw [← hW0]; exact (Boxed.new u _ _).alloc _
    have B2 : Boxed W0 (u.heap.size + 1) 9 (.string ⟨List.toArray []⟩) := by
      rw [← hW0]
      have q := Boxed.new (u.alloc (.cells #[.pointer (some ⟨S.b, 1, none⟩)] 138)) 9 (.string ⟨List.toArray []⟩)
      rw [World.size_alloc] at q
      exact q
    clear hW0
    have hNu : N < u.heap.size := hBN.lt
    have htu : tb < u.heap.size := (Array.getElem?_eq_some_iff.1 hBt).1
    have hwu := hB.size
    have hst0 : StAt W0 ⟨tb, S.grid, .slice none 0 0, S.n, [], []⟩ := ⟨(hb0.block _ htu).trans hBt, .inl ⟨rfl, rfl, none, 0, rfl⟩, fun _ h => (nomatch h), fun _ h => (nomatch h), List.Pairwise.nil, by show 0 ≤ 100; omega, fun _ h => (nomatch h)⟩
    have T0 := Lib.hid (show TwO S w N u.heap.size tb ([], entsS S.ss) ⟨tb, S.grid, .slice none 0 0, S.n, [], []⟩ W0 [] S.ss from
      ⟨rfl, rfl, fun _ hx => (nomatch hx), fun e he => by rw [(HH.out.key e he).1]; exact ltS_text _, rfl, rfl, rfl, rfl, fun _ hx => (nomatch hx), (fun x hx => by
        rcases Sto.mem_own.1 hx with q | q | ⟨_, q, _⟩
        · rw [q]; exact htb
        · cases q
        · cases q), hst0, (hb0.block _ hNu).trans hBN, B1, hB.trans (hb0.mono hwu)⟩)
    have HN := Lib.hid hs0
    have HL0 := Lib.hid hst0.lt
    clear hBN hBt hB hb0 B1 hst0 htu
    refine rangeG (F := Fence.wide) (n := 9) rfl (by omega) (gf := 78) (lb := #[.pointer (some ⟨u.heap.size, 0, none⟩), .pointer (some ⟨u.heap.size + 1, 0, none⟩)]) rfl trivial (enters_of Tryz.func78 (by kernel_rfl) rfl)
      (seqG_depth (aboveS_stops Sto.own u.heap.size (u.heap.size + 1) S.b 1 [] (entsS S.ss) W0 B2.cell)) (Below.refl _ _) (fun _ => rfl)
      (fun st T V => ∃ pre rest, TwO S w N u.heap.size tb st T V pre rest)
      (fun _ _ _ => False)
      ⟨tb, S.grid, .slice none 0 0, S.n, [], []⟩ (fun st T A A' hi q => by obtain ⟨pre, rest, hi⟩ := hi; exact ⟨pre, rest, hi.same HH.out q (by omega) (by omega) (by omega)⟩)
      (fun _ _ _ _ hi _ => hi)
      HL0.out ⟨[], S.ss, T0.out⟩
      ?pre
      (fun x a' _ => a' = { tmps := TwU S N tb u.heap.size x.1 x.2, defers := [] })
      (fun x a' A A' hx _ => hx) ?assign ?body ?done (fun _ _ _ _ _ hf => hf.elim)
    case pre =>
      rintro st T V ⟨pre, rest, q⟩
      have hst := HH.out.below q.B
      refine ⟨q.bm.cell, S.v, entsS S.ss, S.O, (cell_of_row V S.b 1 _ _ _ hst.blk).trans rfl, hst.map, by unfold entsS; have := hst.len; simp; omega, entsS_srt hst.srt, ?_⟩
      rw [q.parts, ← q.ents]
      have : entsS (pre ++ rest) = entsS pre ++ entsS rest := by simp [entsS]
      rw [this]
      refine hi_app stoS (fun x hx => ?_) (fun x hx => ?_)
      · obtain ⟨e, he, rfl⟩ := List.mem_map.1 hx
        exact q.kd e he
      · obtain ⟨e, he, rfl⟩ := List.mem_map.1 hx
        exact q.kr e he
    case assign =>
      rintro l' st x st' T V K hI hnx hmo hK
      simp only [enS]
      have HI := Lib.hid hI
      have HM := Lib.hid hmo
      clear hI hmo
      gi_wp2
      exact hK _ _ (Step.refl HM.out) HI.out rfl
    case body =>
      rintro l' ⟨k, r⟩ x st' T a' V hl hlr hmo ⟨pre, rest, q⟩ hnx rfl
      obtain ⟨e0, rest', rfl⟩ : ∃ e0 rest', rest = e0 :: rest' := by
        cases rest with
        | nil =>
          have := q.ents
          subst this
          cases hnx
        | cons e0 rest => exact ⟨e0, rest, rfl⟩
      have he := q.ents
      dsimp only at he
      subst he
      obtain ⟨rfl, rfl⟩ : (e0.1, e0.2.sb) = x ∧ (e0.1, entsS rest') = st' := by simpa [nxS, entsS] using hnx
      clear hnx
      have hst := HH.out.below q.B
      have hm : e0 ∈ S.ss := by rw [q.parts]; simp
      have hse := hst.ser e0 hm
      obtain ⟨hkt, hck, hls⟩ := hst.key e0 hm
      have hsr := HH.out.srt
      rw [q.parts] at hsr
      have hlow : ∀ e ∈ T.ss, ltS e.1 e0.1 = true := con_key14 q.con (fun e he => (List.pairwise_append.1 hsr).2.2 e he e0 (by simp))
      obtain ⟨ct1, ct2, ct3⟩ := cut_top14 hlow
      have hgn := get_none14 ct3
      have hTl : T.ss.length < 100 := by
        have h1 := congrArg List.length q.con
        have h2 := HH.out.len
        rw [q.parts, List.length_append, List.length_cons] at h2
        rw [List.length_map, List.length_map] at h1
        omega
      have HSA := Lib.hid (ser_at_new V q.st hgn)
      rw [q.b] at HSA
      obtain ⟨lb, lc, hlv⟩ : ∃ lb lc, e0.2.lv = .slice (some ⟨lb, 0, none⟩) e0.2.ls.length lc := by
        rcases hse.lab.2 with ⟨_, q0⟩ | ⟨lb, lc, cur, q1, _⟩
        · exact absurd (List.eq_nil_of_length_eq_zero q0) hls
        · exact ⟨lb, lc, q1⟩
      have hsbw : e0.2.sb < w.heap.size := HH.out.lt _ (Sto.mem_own.2 (.inr (.inr ⟨e0, hm, by simp [Sr.own]⟩)))
      have hlbw : lb < w.heap.size := HH.out.lab_lt e0 hm lb (by rw [hlv]; rfl)
      have g1 := q.bn.cell
      have HQ := Lib.hid q
      have HM := Lib.hid hmo
      have HLr := Lib.hid hlr
      have HF := Lib.hid (And.intro hse (And.intro hkt (And.intro hck (And.intro hls (And.intro hsr (And.intro hlow (And.intro ct1 (And.intro ct2 (And.intro hgn (And.intro hTl hlv))))))))))
      have HS := Lib.hid (And.intro hst (And.intro hm (And.intro hsbw hlbw)))
      clear q hmo hlr hse hkt hck hls hsr hlow ct1 ct2 ct3 hgn hTl hlv hst hm hsbw hlbw
      unfold TwU
      dsimp only
      gi_wp2_with fail
      refine ⟨trivial, (callsIn_wide.2 HSA.out).mono ?_⟩
      rintro e w1 ⟨N2, v', O', rfl, hMd⟩
      have HMd := Lib.hid hMd
      clear HSA g1 hMd
      gi_wp2_with fail
      obtain ⟨W2, hW2⟩ : ∃ W2, W2 = w1.alloc (.cells #[.pointer (some ⟨N2, 0, none⟩)] 86) := ⟨_, rfl⟩
      rw [← hW2]
      have hb2 : Below w1.heap.size w1 W2 := by rw [hW2]; exact below_cells _
      have bM2 : Boxed W2 w1.heap.size 86 (.pointer (some ⟨N2, 0, none⟩)) := by rw [hW2]; exact Boxed.new w1 _ _
      obtain ⟨lb, lc, HLv⟩ : ∃ lb lc, Hid (e0.2.lv = .slice (some ⟨lb, 0, none⟩) e0.2.ls.length lc) := by
        obtain ⟨_, _, _, _, _, _, _, _, _, _, q⟩ := HF.out
        exact ⟨_, _, q⟩
      have hnot : ∀ b, b < w.heap.size → b ∉ T.b :: T.O := fun b h1 h2 => by
        have := HQ.out.own b (Sto.mem_own.2 (by rcases List.mem_cons.1 h2 with z | z; exact .inl z; exact .inr (.inl z)))
        omega
      have hS0 : TwS w1.heap.size N2 e0.2.sb (.slice (some ⟨lb, 0, none⟩) e0.2.ls.length lc) (.slice none 0 0) W2.drew := by
        have s1 := HMd.out.turn.at (hnot _ HS.out.2.2.1) HF.out.1.blk
        have s2 := (hb2.block _ (Array.getElem?_eq_some_iff.1 s1).1).trans s1
        have n2 := (hb2.block _ (Array.getElem?_eq_some_iff.1 HMd.out.ser).1).trans HMd.out.ser
        exact ⟨bM2.cell, ((cell_of_row W2 e0.2.sb 0 _ _ _ s2).trans rfl).trans (congrArg some HLv.out), (cell_of_row W2 N2 0 _ _ _ n2).trans rfl, frozen_of_row W2 N2 0 _ _ n2⟩
      have HB2 := Lib.hid hb2
      have HM2 := Lib.hid bM2
      have HNt := Lib.hid hnot
      clear hW2 hb2 bM2 hnot
      refine wpIn_mono ?_ NoPanic.imp
      refine region_anyM (S := TwS w1.heap.size N2 e0.2.sb (.slice (some ⟨lb, 0, none⟩) e0.2.ls.length lc) (.slice none 0 0)) 7 (by kernel_rfl) (fun hS => ?_) hS0
      clear hS0
      refine anyM_c 0 [0, 5, 6, 7] hS (fun u h => h.o) ?_
      refine anyM_d 1 [1, 2, 3, 4, 5, 6, 7] hS ?_
      refine anyM_d 2 [2, 3, 4, 5, 6, 7] hS ?_
      refine anyM_d 3 [3, 4, 5, 6, 7] hS ?_
      refine anyM_c 4 [4, 5, 6, 7] hS (fun u h => h.s) ?_
      refine anyM_d 5 [5, 6, 7] hS ?_
      refine anyM_d 6 [6, 7] hS ?_
      refine anyM_l (fun K hK => ?_)
      have n1 := hS.n
      have n2 := hS.f
      go_simp
      refine hK _ _ ?_
      clear hK K n1 n2 hS
      refine anyIn_done (by kernel_rfl) ?_ _
      refine NoPanic.normal ?_
      obtain ⟨w3, hw3⟩ : ∃ w3, w3 = (W2.setCell ⟨N2, 0, none⟩ (.slice (some ⟨lb, 0, none⟩) e0.2.ls.length lc)).drew := ⟨_, rfl⟩
      rw [← hw3]
      have hM3 : Made T e0.1 N2 v' O' V w3 (.slice (some ⟨lb, 0, none⟩) e0.2.ls.length lc) := by
        have q := HMd.out.lab HQ.out.st HB2.out (.slice (some ⟨lb, 0, none⟩) e0.2.ls.length lc)
        rw [hw3]; exact ⟨q.ge, q.blk, q.map.keep (fun _ _ => rfl), q.turn.drew, q.new, q.ser⟩
      have bM3 : Boxed w3 w1.heap.size 86 (.pointer (some ⟨N2, 0, none⟩)) := by
        rw [hw3]
        have := (Array.getElem?_eq_some_iff.1 HMd.out.ser).1
        exact (Below.heap_setCell _ _ _ _ (by dsimp only; omega)).trans HM2.out
      have HM3 := Lib.hid hM3
      have HO3 := Lib.hid bM3
      have HAb := Lib.hid (fun W => aboveI_any (some ⟨e0.2.sb, 1, none⟩) (-1) W)
      clear hw3 hM3 bM3 HM2 HB2 HMd
      gi_wp2_with fail
      refine ⟨trivial, (callsIn_wide.2 (HAb.out _)).mono ?_⟩
      rintro e w4 ⟨rfl, rfl⟩
      clear HAb
      gi_wp2
      obtain ⟨hse, hkt, hck, hls, hsr, hlow, ct1, ct2, hgn, hTl, hlv⟩ := HF.out
      have hq := HQ.out
      have hTO : ∀ b ∈ T.b :: T.O, b ∈ T.own := fun b z => Sto.mem_own.2 (by rcases List.mem_cons.1 z with z | z; exact .inl z; exact .inr (.inl z))
      have t3 : Turn T.own V w3 := HM3.out.turn.mono hTO
      have hr3 : w3.ownsRow 0 TLab 2 (.slice (some ⟨lb, 0, none⟩) e0.2.ls.length lc) e0.2.ls.length (labC e0.2.ls) := by
        have h1 := hse.lab
        rw [HLv.out] at h1
        refine row_keep14 h1 (fun b hb => t3.block b ?_ (fun z => ?_))
        · exact hse.lab_lt b (by rw [HLv.out]; exact hb)
        · have h2 := HH.out.lab_lt e0 HS.out.2.1 b (by rw [HLv.out]; exact hb)
          have := hq.own b z; omega
      obtain ⟨hst3, hnew3⟩ := HM3.out.done hq.st hgn hkt hck hls hTl hr3
      rw [ct1, ct2] at hst3 hnew3
      obtain ⟨W4, hW4⟩ : ∃ W4, (w3.alloc (.cells #[.pointer (some ⟨e0.2.sb, 1, none⟩)] 149)).alloc (.cells #[.int .i64 (-1)] 2) = W4 := ⟨_, rfl⟩
      rw [hW4]
      have hs4 : W4.heap.size = w3.heap.size + 2 := by rw [← hW4]; simp
      have hb4 : Below w3.heap.size w3 W4 := by rw [← hW4]; go_grown
      have C1 : Boxed W4 w3.heap.size 149 (.pointer (some ⟨e0.2.sb, 1, none⟩)) := by rw [← hW4]; exact (Boxed.new w3 _ _).alloc _
      have C2 : Boxed W4 (w3.heap.size + 1) 2 (.int .i64 (-1)) := by
        rw [← hW4]
        have q := Boxed.new (w3.alloc (.cells #[.pointer (some ⟨e0.2.sb, 1, none⟩)] 149)) 2 (.int .i64 (-1))
        rw [World.size_alloc] at q
        exact q
      clear hW4
      have t4 : Turn T.own V W4 := t3.then_below hb4
      have hlvs3 : ∀ e ∈ ({ T with v := v', O := O', ss := T.ss ++ [(e0.1, ⟨N2, .slice (some ⟨lb, 0, none⟩) e0.2.ls.length lc, e0.2.ls, .slice none 0 0, [], []⟩)] } : Sto).ss, ∃ e' ∈ S.ss, e'.2.lv = e.2.lv := fun e he => by
        rcases List.mem_append.1 he with z | z
        · exact hq.lvs e z
        · rw [List.mem_singleton.1 z]; exact ⟨e0, HS.out.2.1, HLv.out⟩
      have hown3 : ∀ x ∈ ({ T with v := v', O := O', ss := T.ss ++ [(e0.1, ⟨N2, .slice (some ⟨lb, 0, none⟩) e0.2.ls.length lc, e0.2.ls, .slice none 0 0, [], []⟩)] } : Sto).own, w.heap.size ≤ x := fun x hx => by
        rcases hnew3 x hx with z | z
        · exact hq.own x z
        · exact Nat.le_trans hq.B.size z
      have hlr4 : ∃ r, W4.heap[l']? = some (.loop r) := by
        obtain ⟨r, hr⟩ := HLr.out
        refine ⟨r, t4.at (fun z => ?_) hr⟩
        obtain ⟨cs, t', z1, _⟩ := hq.st.ty l' z
        rw [hr] at z1; cases z1
      obtain ⟨r0, hr0⟩ := hlr4
      have P0 := Lib.hid (show TwP S w N w1.heap.size w3.heap.size tb N2 e0 T.ss T.own V (-1, entsI e0.2.ps) { T with v := v', O := O', ss := T.ss ++ [(e0.1, ⟨N2, .slice (some ⟨lb, 0, none⟩) e0.2.ls.length lc, e0.2.ls, .slice none 0 0, [], []⟩)] } W4 ⟨N2, .slice (some ⟨lb, 0, none⟩) e0.2.ls.length lc, e0.2.ls, .slice none 0 0, [], []⟩ [] e0.2.ps from
        ⟨rfl, rfl, fun _ hx => (nomatch hx), fun e he => by have := (hse.ok e he).k0; simp [ltI]; omega, rfl, rfl, rfl, HLv.out.symm, rfl, hq.b, hq.grid, hq.n, hnew3, t4, hst3.below hb4, t4.at (box_not hq.st hq.bn rfl) hq.bn, (hb4.block _ HO3.out.lt).trans HO3.out, C1, hq.B.trans (t4.below hq.own hq.B.size), hown3, hlvs3⟩)
      have HN4 := Lib.hid hs4
      have HLt4 := Lib.hid (hst3.below hb4).lt
      have HNl := Lib.hid (show N < V.heap.size ∧ w1.heap.size < w3.heap.size ∧ V.heap.size ≤ w3.heap.size ∧ w.heap.size ≤ V.heap.size from ⟨hq.bn.lt, HO3.out.lt, t3.size, hq.B.size⟩)
      clear hse hkt hck hls hsr hlow ct1 ct2 hgn hTl hlv hq hTO t3 hr3 hst3 hnew3 hs4 hb4 C1 t4 hlvs3 hown3 HM3 HO3 HLr HNt
      refine rangeGN (F := Fence.wide.inRound l') (n := 7) rfl hr0 (by omega) (gf := 83) (lb := #[.pointer (some ⟨w3.heap.size, 0, none⟩), .pointer (some ⟨w3.heap.size + 1, 0, none⟩)]) rfl trivial (enters_of Tryz.func83 (by kernel_rfl) rfl)
        (SeqG.inRound l' (seqG_depth (aboveI_stops Sto.own w3.heap.size (w3.heap.size + 1) e0.2.sb 1 (-1) (entsI e0.2.ps) W4 C2.cell))) (Below.refl _ _) (fun _ => rfl)
        (fun st T' V' => ∃ s pre2 rest2, TwP S w N w1.heap.size w3.heap.size tb N2 e0 T.ss T.own V st T' V' s pre2 rest2)
        (fun _ _ _ => False)
        _ (fun st T' A A' hi q => by obtain ⟨s, p1, p2, hi⟩ := hi; have := HN4.out; have := HNl.out; exact ⟨s, p1, p2, hi.same HH.out q (by omega) (by omega) (by omega) (by omega) (by omega)⟩)
        (fun _ _ _ _ hi _ => hi)
        HLt4.out ⟨_, [], e0.2.ps, P0.out⟩
        ?pre2
        (fun x a' _ => a' = { tmps := TwV S N tb u.heap.size N2 w1.heap.size w3.heap.size e0.2.sb e0.1 (.slice (some ⟨lb, 0, none⟩) e0.2.ls.length lc) x.1 x.2, defers := [] })
        (fun x a' A A' hx _ => hx) ?assign2 ?body2 ?done2 (fun _ _ _ hf => hf.elim)
      case pre2 =>
        rintro st T' V' ⟨s, p1, p2, q⟩
        have hst := HH.out.below q.B
        have hse := hst.ser e0 HS.out.2.1
        refine ⟨q.bm.cell, e0.2.pv, entsI e0.2.ps, e0.2.O, (cell_of_row V' e0.2.sb 1 _ _ _ hse.blk).trans rfl, hse.map, by unfold entsI; have := hse.len; simp; omega, ents_srt hse.srt, ?_⟩
        rw [q.parts, ← q.ents]
        have : entsI (p1 ++ p2) = entsI p1 ++ entsI p2 := by simp [entsI]
        rw [this]
        refine hi_app stoI (fun x hx => ?_) (fun x hx => ?_)
        · obtain ⟨e, he, rfl⟩ := List.mem_map.1 hx
          exact q.kd e he
        · obtain ⟨e, he, rfl⟩ := List.mem_map.1 hx
          exact q.kr e he
      case assign2 =>
        rintro l2 st x st' T' V' K hI hnx hmo hK
        simp only [enI]
        have HI := Lib.hid hI
        have HM := Lib.hid hmo
        clear hI hmo
        gi_wp2
        exact hK _ _ (Step.refl HM.out) HI.out rfl
      case body2 =>
        rintro l2 ⟨k2, r2⟩ x st' T' a' V' hl2 _ hmo ⟨s, p1, p2, q⟩ hnx rfl
        obtain ⟨e1, p2', rfl⟩ : ∃ e1 p2', p2 = e1 :: p2' := by
          cases p2 with
          | nil =>
            have := q.ents
            subst this
            cases hnx
          | cons e1 p2' => exact ⟨e1, p2', rfl⟩
        have he := q.ents
        dsimp only at he
        subst he
        obtain ⟨rfl, rfl⟩ : (e1.1, e1.2.blk) = x ∧ (e1.1, entsI p2') = st' := by simpa [nxI, entsI] using hnx
        clear hnx
        have hst := HH.out.below q.B
        have hse := hst.ser e0 HS.out.2.1
        have hme : e1 ∈ e0.2.ps := by rw [q.parts]; simp
        have hok := hse.ok e1 hme
        have hc1 := hse.cells e1 hme
        have hcw : e1.2.blk < w.heap.size := HH.out.lt _ (Sto.mem_own.2 (.inr (.inr ⟨e0, HS.out.2.1, by simp only [Sr.own, List.mem_cons, List.mem_append, List.mem_map]; exact .inr (.inr ⟨e1, hme, rfl⟩)⟩)))
        have hsrI := hse.srt
        rw [q.parts] at hsrI
        have hmS : (e0.1, s) ∈ T'.ss := by rw [q.ss]; simp
        have hsT := q.st.ser _ hmS
        have hsl : s.ps.length < 100 := by
          have h1 := congrArg List.length q.con
          have h2 := hse.len
          rw [q.parts, List.length_append, List.length_cons] at h2
          unfold conP at h1
          rw [List.length_map, List.length_map] at h1
          omega
        have HPA := Lib.hid (fun W (hW : SerAt W s) => pane_at s e1.1 hok.k0 hok.k1 W hW hsl)
        rw [q.sbe] at HPA
        have hS0 : TwC w1.heap.size N2 e1.2.blk (clC e1.2.L) V'.drew := ⟨q.bM.cell, hc1⟩
        have hMn : w1.heap.size ∉ s.own := fun z => box_not q.st q.bM rfl (Sto.mem_own.2 (.inr (.inr ⟨_, hmS, z⟩)))
        have hcn : e1.2.blk ∉ s.own := fun z => by
          have := q.own _ (Sto.mem_own.2 (.inr (.inr ⟨_, hmS, z⟩)))
          omega
        have HQ2 := Lib.hid q
        have HX := Lib.hid (And.intro hok (And.intro hsrI (And.intro hmS (And.intro hsT (And.intro hMn hcn)))))
        clear q hmo hst hse hme hok hc1 hcw hsrI hmS hsT hsl hMn hcn
        unfold TwV
        dsimp only
        gi_wp2_with fail
        refine wpIn_mono ?_ NoPanic.imp
        refine region_anyM (S := TwC w1.heap.size N2 e1.2.blk (clC e1.2.L)) 9 (by kernel_rfl) (fun hS => ?_) hS0
        clear hS0
        refine anyM_c 0 [0, 1, 2, 4, 8, 9] hS (fun u h => h.o) ?_
        refine anyM_d 1 [1, 2, 4, 8, 9] hS ?_
        refine anyM_d 2 [2, 4, 8, 9] hS ?_
        refine anyM_d 3 [3, 4, 8, 9] hS ?_
        refine anyM_d 5 [5, 6, 7, 9] hS ?_
        refine anyM_d 6 [6, 7, 9] hS ?_
        refine anyM_c 7 [7, 9] hS (fun u h => h) ?_ (hy := ldC_row (fun u h => h.c) (clC_size _) rfl rfl rfl)
        refine anyM_o 4 (fun K hK => ?_)
        go_simp
        refine ⟨trivial, ?_⟩
        refine (callsIn_wide.2 (HPA.out V'.drew (HX.out.2.2.2.1.keep (w' := V'.drew) (fun _ _ => rfl)))).mono ?_
        rintro e w5 ⟨s6, A6, B6, p6, rfl, hpa, hse6, htu, hnw⟩
        have hM1 : TwC w1.heap.size N2 e1.2.blk (clC e1.2.L) w5 := ⟨(World.cell?_of_block (a := ⟨w1.heap.size, 0, none⟩) (htu.block _ (World.block_lt_of_cell? _ _ hS.o) HX.out.2.2.2.2.1)).trans hS.o, htu.at HX.out.2.2.2.2.2 hS.c⟩
        dsimp only
        refine hK _ _ hM1 ?_
        clear hS
        have hS := hM1
        clear hM1 hK K HPA
        refine anyM_d 8 [8, 9] hS ?_
        refine anyM_l (fun K hK => ?_)
        have hc6 := hse6.cells (e1.1, p6) (by rw [hpa.ps]; simp)
        refine stC_row hc6 (clC_size _) rfl rfl rfl (clC_size _) (clC_one _) ?_
        refine hK _ _ ?_
        clear hK K
        refine anyIn_done (by kernel_rfl) ?_ _
        refine NoPanic.normal ?_
        have hq := HQ2.out
        have hTu6 : Turn s.own V' w5 := ((Turn.refl _ V').drew).trans htu (fun b z => .inl z)
        have hse7 : SerAt (w5.setRow p6.blk (clC e1.2.L)) { s6 with ps := A6 ++ (e1.1, ⟨p6.blk, e1.2.L⟩) :: B6 } := pane_set hse6 hpa.ps (Turn.row w5 p6.blk (clC e1.2.L)) (setRow_heap w5 p6.blk _ _ _ _ hc6) HX.out.1.i64 HX.out.1.len
        have hp6 : p6.blk ∈ s6.own := by
          simp only [Sr.own, List.mem_cons, List.mem_append, List.mem_map]
          exact .inr (.inr ⟨_, by rw [hpa.ps]; exact List.mem_append_right _ (List.mem_cons_self ..), rfl⟩)
        have hNw : New s.own s6.own V' := fun b z => (hnw b z).imp id (fun r => r)
        have hTn : Turn s.own V' (w5.setRow p6.blk (clC e1.2.L)) := hTu6.trans (Turn.row w5 p6.blk (clC e1.2.L)) (fun b z => by rw [List.mem_singleton.1 z]; exact hNw _ hp6)
        have hNn : New s.own ({ s6 with ps := A6 ++ (e1.1, ⟨p6.blk, e1.2.L⟩) :: B6 } : Sr).own V' := fun b z => hNw b (by
          simp only [Sr.own, List.mem_cons, List.mem_append, List.mem_map] at z ⊢
          rcases z with z | z | ⟨e, z | z | z, r⟩
          · exact .inl z
          · exact .inr (.inl z)
          · exact .inr (.inr ⟨e, by rw [hpa.ps]; simp [z], r⟩)
          · exact .inr (.inr ⟨_, by rw [hpa.ps]; exact List.mem_append_right _ (List.mem_cons_self ..), by rw [← r, z]⟩)
          · exact .inr (.inr ⟨e, by rw [hpa.ps]; simp [z], r⟩))
        have hst7 := st_set hq.st hq.ss hse7 hpa.sb hpa.ls hTn hNn
        have hown7 := set_own (w := V') hq.ss hNn
        have hlow2 : ∀ e ∈ s.ps, ltI e.1 e1.1 = true := fun e he => by
          have : (e.1, e.2.L) ∈ conP p1 := by rw [← hq.con]; exact List.mem_map.2 ⟨e, he, rfl⟩
          obtain ⟨e', he', z⟩ := List.mem_map.1 this
          have hk : e'.1 = e.1 := (Prod.mk.inj z).1
          rw [← hk]; exact (srtI_cut14 HX.out.2.1).2.2 e' he'
        have hA : conP A6 = conP p1 := by rw [hpa.cA, ← (conP_lo _ _).1, (cutI_top14 hlow2).1, hq.con]
        have hB : conP B6 = [] := by rw [hpa.cB, ← (conP_lo _ _).2, (cutI_top14 hlow2).2]; rfl
        have hcn7 : conP (A6 ++ (e1.1, ⟨p6.blk, e1.2.L⟩) :: B6) = conP (p1 ++ [e1]) := by
          rw [conP_app, conP_app, hA]
          show conP p1 ++ ((e1.1, e1.2.L) :: conP B6) = _
          rw [hB]; rfl
        have hTV : Turn T'.own V' (w5.setRow p6.blk (clC e1.2.L)) := hTn.mono (fun b z => Sto.mem_own.2 (.inr (.inr ⟨_, HX.out.2.2.1, z⟩)))
        have HFin := Lib.hid (show ∃ T2, (∃ s' p1' p2'', TwP S w N w1.heap.size w3.heap.size tb N2 e0 T.ss T.own V (e1.1, entsI p2') T2 (w5.setRow p6.blk (clC e1.2.L)) s' p1' p2'') ∧ Step W4.heap.size T'.own T2.own V' (w5.setRow p6.blk (clC e1.2.L)) from by
          refine ⟨{ T' with ss := T.ss ++ [(e0.1, { s6 with ps := A6 ++ (e1.1, ⟨p6.blk, e1.2.L⟩) :: B6 })] }, ⟨{ s6 with ps := A6 ++ (e1.1, ⟨p6.blk, e1.2.L⟩) :: B6 }, p1 ++ [e1], p2', ?_⟩, ⟨hTV.size, fun k o hk hkm ho => hTV.at hkm ho, hown7, hst7.lt⟩⟩
          refine ⟨by rw [hq.parts]; simp, rfl, (srtI_cut14 HX.out.2.1).1, (srtI_cut14 HX.out.2.1).2.1, rfl, hcn7, hpa.sb.trans hq.sbe, hpa.lv.trans hq.lv, hpa.ls.trans hq.ls, hq.b, hq.grid, hq.n, hq.new.trans hown7 hq.turn.size, hq.turn.trans hTV hq.new, hst7, hTV.at (box_not hq.st hq.bN rfl) hq.bN, hTV.at (box_not hq.st hq.bM rfl) hq.bM, hTV.at (box_not hq.st hq.bm rfl) hq.bm, hq.B.trans (hTV.below hq.own hq.B.size), fun x hx => ?_, fun e he => ?_⟩
          · rcases hown7 x hx with z | z
            · exact hq.own x z
            · exact Nat.le_trans hq.B.size z
          · rcases List.mem_append.1 he with z | z
            · exact hq.lvs e (by rw [hq.ss]; simp [z])
            · rw [List.mem_singleton.1 z]
              exact ⟨e0, HS.out.2.1, (hpa.lv.trans hq.lv).symm⟩)
        clear hq hTu6 hse7 hp6 hNw hTn hNn hst7 hown7 hlow2 hA hB hcn7 hTV hc6 hS hpa hse6 htu hnw HX HQ2
        generalize w5.setRow p6.blk (clC e1.2.L) = w6 at *
        gi_wp2
        exact HFin.out
      case done2 =>
        rintro ⟨k2, r2⟩ T' V' hnx ⟨s, p1, p2, q⟩
        have hr : p2 = [] := by
          cases r2 with
          | nil =>
            have := q.ents
            dsimp only at this
            unfold entsI at this
            simpa using this
          | cons _ _ => cases hnx
        have hp : e0.2.ps = p1 := by rw [q.parts, hr, List.append_nil]
        have hq := HQ.out
        obtain ⟨hse, hkt, hck, hls, hsr, hlow, ct1, ct2, hgn, hTl, hlv⟩ := HF.out
        have HFin := Lib.hid (show ∃ T2, (∃ pre' rest'', TwO S w N u.heap.size tb (e0.1, entsS rest') T2 V' pre' rest'') ∧ Step W0.heap.size T.own T2.own V V' from by
          refine ⟨T', ⟨pre ++ [e0], rest', by rw [hq.parts]; simp, rfl, (srt_cut14 hsr).1, (srt_cut14 hsr).2, ?_, q.b, q.grid, q.n, q.lvs, q.own, q.st, q.bN, q.turn.at (box_not hq.st hq.bm rfl) hq.bm, q.B⟩, ⟨q.turn.size, fun k o hk hkm ho => q.turn.at hkm ho, q.new, q.st.lt⟩⟩
          rw [q.ss, List.map_append, List.map_append, hq.con]
          show _ ++ [(e0.1, (s.ls, conP s.ps))] = _ ++ [(e0.1, (e0.2.ls, conP e0.2.ps))]
          rw [q.ls, q.con, hp])
        clear q hr hp hq hse hkt hck hls hsr hlow ct1 ct2 hgn hTl hlv hnx
        gi_wp2
        exact HFin.out
    case done =>
      rintro D ⟨k, r⟩ T V hD hnx ⟨pre, rest, q⟩ hDm hK
      have hr : rest = [] := by
        cases r with
        | nil =>
          have := q.ents
          dsimp only at this
          unfold entsS at this
          simpa using this
        | cons _ _ => cases hnx
      have hp : S.ss = pre := by rw [q.parts, hr, List.append_nil]
      have g1 : V.cell? ⟨N, 0, none⟩ = some (.pointer (some ⟨T.b, 0, none⟩)) := by rw [q.b]; exact q.bn.cell
      have HF := Lib.hid (show StAt (V.putObj D (.deferred none)) T ∧ T.grid = S.grid ∧ T.n = S.n ∧ T.ss.map con = S.ss.map con ∧ (∀ x ∈ T.own, w.heap.size ≤ x) ∧ (∀ e ∈ T.ss, ∃ e' ∈ S.ss, e'.2.lv = e.2.lv) ∧ Below w.heap.size w (V.putObj D (.deferred none)) from
        ⟨(q.same HH.out (Same.put _ (Nat.le_of_lt_succ (by omega)) hDm : Same (D) T.own V (V.putObj D (.deferred none))) (by omega) (by omega) (by omega)).st, q.grid, q.n, by rw [hp]; exact q.con, q.own, q.lvs, q.B.trans ⟨rfl, rfl, rfl, by simp, fun k hk => World.putObj_heap_other (by omega)⟩⟩)
      clear q hnx hp hr
      gi_wp2
      refine ⟨by simp, .inl ⟨_, _, rfl, run_takeDeferred hK, ?_⟩⟩
      exact ⟨_, by simp [results, Tryz.results14, go_sem]; try rfl, T, rfl, HF.out⟩
  refine wpIn_mono ?_ NoPanic.imp
  refine region_anyM (S := fun u => u.heap[S.b]? = some (.cells #[.int .i64 S.grid, S.v, .int .i64 S.n] TSto (0, 0))) 11 (by kernel_rfl) (fun hS => ?_) hb
  refine anyM_d 0 [0, 1, 2, 3, 8, 9, 11] hS ?_
  refine anyM_d 1 [1, 2, 3, 8, 9, 11] hS ?_
  refine anyM_d 2 [2, 3, 8, 9, 11] hS ?_
  refine anyM_c 3 [3, 8, 9, 11] hS (fun u h => (cell_of_row u S.b 0 _ _ _ h).trans (show _ = some (Value.int .i64 S.grid) from rfl)) ?_
  refine anyM_d 4 [4, 5, 6, 7, 8, 9, 11] hS ?_
  refine anyM_d 5 [5, 6, 7, 8, 9, 11] hS ?_
  refine anyM_d 6 [6, 7, 8, 9, 11] hS ?_
  refine anyM_c 7 [7, 8, 9, 11] hS (fun u h => (cell_of_row u S.b 2 _ _ _ h).trans (show _ = some (Value.int .i64 S.n) from rfl)) ?_
  refine anyM_d 8 [8, 9, 11] hS ?_
  refine anyM_two 9 10 (fun K hK => ?_) (fun K hK => ?_)
  · go_simp
    have e1 : (w.alloc (.cells #[.int .i64 S.grid, .slice none 0 0, .int .i64 S.n] 85)).drew.heap.size = w.heap.size + 1 := by simp [World.drew]
    have e2 : (w.alloc (.cells #[.int .i64 S.grid, .slice none 0 0, .int .i64 S.n] 85)).drew.heap[w.heap.size]? = some (.cells #[.int .i64 S.grid, .slice none 0 0, .int .i64 S.n] TSto (0, 0)) := heap_alloc_new w _
    have e3 : Below w.heap.size w (w.alloc (.cells #[.int .i64 S.grid, .slice none 0 0, .int .i64 S.n] 85)).drew := (below_cells _).drew
    have hM1 : (w.alloc (.cells #[.int .i64 S.grid, .slice none 0 0, .int .i64 S.n] 85)).drew.heap[S.b]? = some (.cells #[.int .i64 S.grid, S.v, .int .i64 S.n] TSto (0, 0)) := (e3.block _ (Array.getElem?_eq_some_iff.1 hb).1).trans hb
    generalize (w.alloc (.cells #[.int .i64 S.grid, .slice none 0 0, .int .i64 S.n] 85)).drew = v1 at *
    refine hK _ _ hM1 ?_
    clear hK K
    refine anyM_o 10 (fun K hK => ?_)
    go_simp
    have e5 : Below v1.heap.size v1 (v1.alloc (.cells #[.pointer none] 27)) := below_cells _
    have e4 := Boxed.new v1 27 (.pointer none)
    have hM2 : (v1.alloc (.cells #[.pointer none] 27)).heap[S.b]? = some (.cells #[.int .i64 S.grid, S.v, .int .i64 S.n] TSto (0, 0)) := (e5.block _ (Array.getElem?_eq_some_iff.1 hM1).1).trans hM1
    have hE := e3.trans (e5.mono (by omega))
    have et : (v1.alloc (.cells #[.pointer none] 27)).heap[w.heap.size]? = some (.cells #[.int .i64 S.grid, .slice none 0 0, .int .i64 S.n] TSto (0, 0)) := (e5.block _ (by omega)).trans e2
    rw [e1] at e4
    generalize v1.alloc (.cells #[.pointer none] 27) = v2 at *
    refine hK _ _ hM2 ?_
    clear hK K
    have c1 := e4.cell
    have c2 := e4.frozen
    refine anyM_l (fun K hK => ?_)
    go_simp
    refine hK _ _ ?_
    clear hK K c1 c2
    refine anyIn_done (by kernel_rfl) ?_ _
    refine NoPanic.normal ?_
    exact HK (w.heap.size + 1) w.heap.size _ (by omega) (Nat.le_refl _) (e4.set _) ((Below.heap_setCell _ _ _ _ (by dsimp only; omega)).trans et) (hE.setCell (Nat.le_succ _) _)
  · go_simp
    have e4 : Boxed (w.alloc (.cells #[.pointer none] 27)).drew w.heap.size 27 (.pointer none) := Boxed.new w _ _
    have e1 : (w.alloc (.cells #[.pointer none] 27)).drew.heap.size = w.heap.size + 1 := by simp [World.drew]
    have e3 : Below w.heap.size w (w.alloc (.cells #[.pointer none] 27)).drew := (below_cells _).drew
    have hM1 : (w.alloc (.cells #[.pointer none] 27)).drew.heap[S.b]? = some (.cells #[.int .i64 S.grid, S.v, .int .i64 S.n] TSto (0, 0)) := (e3.block _ (Array.getElem?_eq_some_iff.1 hb).1).trans hb
    generalize (w.alloc (.cells #[.pointer none] 27)).drew = v1 at *
    refine hK _ _ hM1 ?_
    clear hK K
    refine anyM_o 9 (fun K hK => ?_)
    go_simp
    have e5 : Below v1.heap.size v1 (v1.alloc (.cells #[.int .i64 S.grid, .slice none 0 0, .int .i64 S.n] 85)) := below_cells _
    have hM2 : (v1.alloc (.cells #[.int .i64 S.grid, .slice none 0 0, .int .i64 S.n] 85)).heap[S.b]? = some (.cells #[.int .i64 S.grid, S.v, .int .i64 S.n] TSto (0, 0)) := (e5.block _ (Array.getElem?_eq_some_iff.1 hM1).1).trans hM1
    have hE := e3.trans (e5.mono (by omega))
    have et : (v1.alloc (.cells #[.int .i64 S.grid, .slice none 0 0, .int .i64 S.n] 85)).heap[v1.heap.size]? = some (.cells #[.int .i64 S.grid, .slice none 0 0, .int .i64 S.n] TSto (0, 0)) := heap_alloc_new v1 _
    have e6 : Boxed (v1.alloc (.cells #[.int .i64 S.grid, .slice none 0 0, .int .i64 S.n] 85)) w.heap.size 27 (.pointer none) := e4.alloc _
    rw [e1] at et
    generalize v1.alloc (.cells #[.int .i64 S.grid, .slice none 0 0, .int .i64 S.n] 85) = v2 at *
    refine hK _ _ hM2 ?_
    clear hK K
    have c1 := e6.cell
    have c2 := e6.frozen
    refine anyM_l (fun K hK => ?_)
    go_simp
    refine hK _ _ ?_
    clear hK K c1 c2
    refine anyIn_done (by kernel_rfl) ?_ _
    refine NoPanic.normal ?_
    exact HK w.heap.size (w.heap.size + 1) _ (Nat.le_refl _) (by omega) (e6.set _) ((Below.heap_setCell _ _ _ _ (by dsimp only; omega)).trans et) (hE.setCell (Nat.le_refl _) _)
theorem twin_any (S : Sto) (w : World) (h : StAt w S) :
    Calls Tryz.prog 14 #[.pointer (some ⟨S.b, 0, none⟩)] w fun e w' => ∃ T : Sto, e = .returned (.pointer (some ⟨T.b, 0, none⟩)) ∧ StAt w' T ∧ T.grid = S.grid ∧ T.n = S.n ∧ T.ss.map con = S.ss.map con ∧ (∀ x ∈ T.own, w.heap.size ≤ x) ∧ (∀ e ∈ T.ss, ∃ e' ∈ S.ss, e'.2.lv = e.2.lv) ∧ Below w.heap.size w w' := (callsIn_wide (n := 9)).1 (twin_wd S w h)
end Go.Proofs.YtedcdhngiofpjaaGreatDoor
