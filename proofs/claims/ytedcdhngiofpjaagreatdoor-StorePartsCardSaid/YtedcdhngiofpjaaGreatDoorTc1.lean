/- store: New, Len, step, end, check; slices.Clone of labels. -/
import Derived.Test.YtedcdhngiofpjaaGreatDoorSz
namespace Go.Proofs.YtedcdhngiofpjaaGreatDoor
open Go Go.Proofs Go.RowKit Go.Shelf
set_option maxRecDepth 100000
theorem len_any14 (S : Sto) (w : World) (h : StAt w S) : Calls Tryz.prog 15 #[.pointer (some ⟨S.b, 0, none⟩)] w fun e w' => e = .returned (.int .i64 S.n) ∧ w = w' := by
  have c := (cell_of_row w S.b 2 _ _ _ h.blk).trans (show _ = some (Value.int .i64 S.n) from rfl)
  clear h
  go_enter Tryz.func15, Tryz.ntmps15
  go_wp2
  go_ret
  exact ⟨rfl, rfl⟩
theorem step_any14 (S : Sto) (hg : 1 ≤ S.grid) (w : World) (h : StAt w S) : Calls Tryz.prog 74 #[.pointer (some ⟨S.b, 0, none⟩)] w fun e w' => e = .returned (.int .i64 S.grid) ∧ w = w' := by
  have c := (cell_of_row w S.b 0 _ _ _ h.blk).trans (show _ = some (Value.int .i64 S.grid) from rfl)
  have hm : max S.grid 1 = S.grid := by omega
  clear h
  go_enter Tryz.func74, Tryz.ntmps74
  go_wp2
  go_ret
  exact ⟨rfl, rfl⟩
/-- the pane of a time -/
def endR (grid t : Int) : Int := (t + grid - 1) / grid * grid
theorem end_bounds {grid t : Int} (hg : 1 ≤ grid) (hg2 : grid ≤ 4398046511104) (ht : 0 ≤ t) (ht2 : t ≤ 4398046511104) : 0 ≤ endR grid t ∧ endR grid t ≤ 9007199254740992 ∧ t ≤ endR grid t ∧ endR grid t < t + grid := by
  unfold endR
  have h1 := Int.mul_ediv_add_emod (t + grid - 1) grid
  have h2 := Int.emod_nonneg (t + grid - 1) (show grid ≠ 0 by omega)
  have h3 := Int.emod_lt_of_pos (t + grid - 1) (show 0 < grid by omega)
  rw [Int.mul_comm] at h1
  generalize (t + grid - 1) / grid * grid = q at *
  generalize (t + grid - 1) % grid = r at *
  exact ⟨by omega, by omega, by omega, by omega⟩
theorem tdiv14 {a b : Int} (ha : 0 ≤ a) : Int.tdiv a b = a / b := Int.tdiv_eq_ediv_of_nonneg ha
theorem tmod14 {a b : Int} (ha : 0 ≤ a) : Int.tmod a b = a % b := Int.tmod_eq_emod_of_nonneg ha
theorem end_any14 (S : Sto) (hg : 1 ≤ S.grid) (hg2 : S.grid ≤ 4398046511104) (t : Int) (ht : 0 ≤ t) (ht2 : t ≤ 4398046511104) (w : World) (h : StAt w S) :
    Calls Tryz.prog 38 #[.pointer (some ⟨S.b, 0, none⟩), .int .i64 t] w fun e w' => e = .returned (.int .i64 (endR S.grid t)) ∧ w = w' := by
  have HS := Lib.hid (step_any14 S hg w h)
  have hb := end_bounds hg hg2 ht ht2
  have q0 : ¬ S.grid = 0 := by omega
  have q1 : wrap64 (t + S.grid) = t + S.grid := by rw [wrap64]; omega
  have q2 : wrap64 (t + S.grid - 1) = t + S.grid - 1 := by rw [wrap64]; omega
  have q3 : Int.tdiv (t + S.grid - 1) S.grid = (t + S.grid - 1) / S.grid := tdiv14 (by omega)
  have hd0 : 0 ≤ (t + S.grid - 1) / S.grid := Int.ediv_nonneg (by omega) (by omega)
  have hd1 : (t + S.grid - 1) / S.grid ≤ t + S.grid - 1 := Int.ediv_le_self _ (by omega)
  have q4 : wrap64 ((t + S.grid - 1) / S.grid) = (t + S.grid - 1) / S.grid := by rw [wrap64]; omega
  have q5 : wrap64 ((t + S.grid - 1) / S.grid * S.grid) = (t + S.grid - 1) / S.grid * S.grid := by
    have : endR S.grid t = (t + S.grid - 1) / S.grid * S.grid := rfl
    rw [this] at hb
    generalize (t + S.grid - 1) / S.grid * S.grid = z at *
    rw [wrap64]; omega
  have HE := Lib.hid (show endR S.grid t = (t + S.grid - 1) / S.grid * S.grid from rfl)
  have Q5 := Lib.hid q5
  clear h hb hd0 hd1
  go_enter Tryz.func38, Tryz.ntmps38
  go_wp2_with fail
  refine HS.out.mono ?_
  rintro e w1 ⟨rfl, rfl⟩
  go_wp2
  go_ret
  exact ⟨by rw [HE.out]; show Ending.returned (Value.int .i64 (wrap64 ((t + S.grid - 1) / S.grid * S.grid))) = _; rw [Q5.out], rfl⟩
/-- may these be the ends of a range -/
def endsR (grid f t : Int) : Int := if f < 0 ∨ f % grid ≠ 0 ∨ t < f ∨ t % grid ≠ 0 then 1 else 0
theorem check_any14 (S : Sto) (hg : 1 ≤ S.grid) (f t : Int) (w : World) (h : StAt w S) :
    Calls Tryz.prog 48 #[.pointer (some ⟨S.b, 0, none⟩), .int .i64 f, .int .i64 t] w fun e w' => e = .returned (.int .i64 (endsR S.grid f t)) ∧ w = w' := by
  have HS := Lib.hid (step_any14 S hg w h)
  have q0 : ¬ S.grid = 0 := by omega
  clear h
  by_cases h1 : f < 0
  · have HE := Lib.hid (show endsR S.grid f t = 1 from if_pos (.inl h1))
    go_enter Tryz.func48, Tryz.ntmps48
    go_wp2_with fail
    refine HS.out.mono ?_
    rintro e w1 ⟨rfl, rfl⟩
    go_wp2
    go_ret
    exact ⟨by rw [HE.out]; rfl, rfl⟩
  have m1 : Int.tmod f S.grid = f % S.grid := tmod14 (by omega)
  have d1 : decide (f < 0) = false := by simpa using h1
  by_cases h2 : f % S.grid = 0
  · have d2 : (f % S.grid != 0) = false := by simpa using h2
    by_cases h3 : t < f
    · have d3 : decide (t < f) = true := by simpa using h3
      have HE := Lib.hid (show endsR S.grid f t = 1 from if_pos (.inr (.inr (.inl h3))))
      go_enter Tryz.func48, Tryz.ntmps48
      go_wp2_with fail
      refine HS.out.mono ?_
      rintro e w1 ⟨rfl, rfl⟩
      go_wp2
      go_ret
      exact ⟨by rw [HE.out]; rfl, rfl⟩
    · have m2 : Int.tmod t S.grid = t % S.grid := tmod14 (by omega)
      have d3 : decide (t < f) = false := by simpa using h3
      by_cases h4 : t % S.grid = 0
      · have d4 : (t % S.grid != 0) = false := by simpa using h4
        have HE := Lib.hid (show endsR S.grid f t = 0 from if_neg (by simp [h1, h2, h3, h4]))
        go_enter Tryz.func48, Tryz.ntmps48
        go_wp2_with fail
        refine HS.out.mono ?_
        rintro e w1 ⟨rfl, rfl⟩
        go_wp2
        go_ret
        exact ⟨by rw [HE.out]; rfl, rfl⟩
      · have d4 : (t % S.grid != 0) = true := by simpa using h4
        have HE := Lib.hid (show endsR S.grid f t = 1 from if_pos (.inr (.inr (.inr h4))))
        go_enter Tryz.func48, Tryz.ntmps48
        go_wp2_with fail
        refine HS.out.mono ?_
        rintro e w1 ⟨rfl, rfl⟩
        go_wp2
        go_ret
        exact ⟨by rw [HE.out]; rfl, rfl⟩
  · have d2 : (f % S.grid != 0) = true := by simpa using h2
    have HE := Lib.hid (show endsR S.grid f t = 1 from if_pos (.inr (.inl h2)))
    go_enter Tryz.func48, Tryz.ntmps48
    go_wp2_with fail
    refine HS.out.mono ?_
    rintro e w1 ⟨rfl, rfl⟩
    go_wp2
    go_ret
    exact ⟨by rw [HE.out]; rfl, rfl⟩
theorem new_bad14 (g : Int) (hg : g < 1 ∨ 4398046511104 < g) (w : World) : Calls Tryz.prog 7 #[.int .i64 g] w fun e w' => e = .returned (.tuple #[.pointer none, .int .i64 1]) ∧ w = w' := by
  by_cases h1 : g < 1
  · go_enter Tryz.func7, Tryz.ntmps7
    go_wp2
    go_ret2
    exact ⟨rfl, rfl⟩
  · have h2 : 4398046511104 < g := by omega
    go_enter Tryz.func7, Tryz.ntmps7
    go_wp2
    go_ret2
    exact ⟨rfl, rfl⟩
theorem new_good14 (g : Int) (h1 : 1 ≤ g) (h2 : g ≤ 4398046511104) (w : World) : Calls Tryz.prog 7 #[.int .i64 g] w fun e w' => e = .returned (.tuple #[.pointer (some ⟨w.heap.size, 0, none⟩), .int .i64 0]) ∧ Below w.heap.size w w' ∧ StAt w' ⟨w.heap.size, g, .slice none 0 0, 0, [], []⟩ := by
  have q1 : ¬ g < 1 := by omega
  have q2 : ¬ 4398046511104 < g := by omega
  have HP := Lib.hid (show Below w.heap.size w (w.alloc (.cells #[.int .i64 g, .slice none 0 0, .int .i64 0] 85)) ∧ StAt (w.alloc (.cells #[.int .i64 g, .slice none 0 0, .int .i64 0] 85)) ⟨w.heap.size, g, .slice none 0 0, 0, [], []⟩ from
    ⟨below_cells _, ⟨heap_alloc_new w _, .inl ⟨rfl, rfl, none, 0, rfl⟩, fun _ h => (nomatch h), fun _ h => (nomatch h), List.Pairwise.nil, by show 0 ≤ 100; omega, fun _ h => (nomatch h)⟩⟩)
  go_enter Tryz.func7, Tryz.ntmps7
  go_wp2
  go_ret2
  exact ⟨rfl, HP.out⟩
end Go.Proofs.YtedcdhngiofpjaaGreatDoor
/- store: slices.Clone of labels; a pane found or made; a series found or made. -/
namespace Go.Proofs.YtedcdhngiofpjaaGreatDoor
open Go Go.Proofs Go.RowKit Go.Shelf
set_option maxRecDepth 100000
theorem info_lab14 : (Tryz.prog.info? TLab).map (fun i => (i.zero, i.size, i.bytes)) = some (some (.agg #[.string ⟨#[]⟩, .string ⟨#[]⟩]), 2, 32) := by kernel_rfl
theorem labC_one14 (zs : List SLab) : ∀ v ∈ labC zs, v.oneCell' = true := by
  intro v hv
  unfold labC at hv
  obtain ⟨x, _, h⟩ := List.mem_flatMap.1 hv
  simp at h
  rcases h with rfl | rfl <;> rfl
theorem labC_len14 (zs : List SLab) : (labC zs).length = zs.length * 2 := by
  induction zs with
  | nil => rfl
  | cons x t ih => rw [labC_cons]; simp only [List.length_cons, ih]; omega
set_option maxHeartbeats 2000000 in
theorem clone_any14 (b off cap : Nat) (zs : List SLab) (hz : zs.length ≤ 1000) (w : World) (hc : ∀ j v, (labC zs)[j]? = some v → w.cell? ⟨b, off + j, none⟩ = some v) :
    Calls Tryz.prog 36 #[.slice (some ⟨b, off, none⟩) zs.length cap] w fun e w' => ∃ v', e = .returned v' ∧ w'.ownsRow w.heap.size TLab 2 v' zs.length (labC zs) ∧ Below w.heap.size w w' ∧ v' ≠ .slice none 0 0 := by
  obtain ⟨i0, hi, hz0, hz1, hz2⟩ := info_parts info_lab14
  have q22 : ∀ (w : World) (a : Option Addr) (n c n' c' : Nat), (binOp .eql 24 (.slice a n c) (.slice none n' c')).run Tryz.prog w = .ok (.bool a.isNone) w := fun w a n c n' c' => Lib.run_eql_slice_nil w _ _ a n c n' c' Tryz.underlying24
  have HC := Lib.hid hc
  clear hc
  go_enter Tryz.func36, Tryz.ntmps36
  go_wp2_with (at_builtin; refine wpList_append_own _ rfl _ _ 24 rfl w.heap.size TLab i0 _ 2 32 Tryz.underlying24 hi hz0 hz1 hz2 rfl (by decide) _ 0 [] rfl (World.ownsRow_made w #[] 0 (Nat.le_refl _) (Nat.zero_le _) rfl) ⟨b, off, none⟩ zs.length cap (labC zs) rfl ?qc1 ?qc2 ?qc3 ?qc4 ?qc5 ?qc6 ?qc7)
  case qc1 => exact labC_len14 zs
  case qc2 =>
    intro j u hj
    rw [Addr.add_lit]
    exact Lib.cell?_alloc_some _ (HC.out j u hj)
  case qc3 => exact labC_one14 zs
  case qc4 => unfold maxLen; omega
  case qc5 => omega
  case qc6 => simp
  intro v' w1 hown hgrow hnil
  have HO := Lib.hid hown
  have HB := Lib.hid (show Below w.heap.size w w1 from ((Below.refl _ w).alloc (Nat.le_refl _) _).grown hgrow (by simp) (by intro k hk; simp [Value.ownBlock] at hk; omega))
  have HN := Lib.hid hnil
  clear hown hgrow hnil
  go_wp2
  go_ret
  exact ⟨v', rfl, by simpa using HO.out, HB.out, HN.out⟩
theorem conP_get (ps : List (Int × Pa)) (k : Int) : getL (conP ps) k = (getL ps k).map (·.L) := by
  unfold getL conP
  rw [List.find?_map]
  cases h : List.find? ((fun e : Int × List Nm => decide (e.1 = k)) ∘ fun p : Int × Pa => (p.1, p.2.L)) ps with
  | none =>
    have : List.find? (fun e : Int × Pa => decide (e.1 = k)) ps = none := h
    rw [this]; rfl
  | some y =>
    have : List.find? (fun e : Int × Pa => decide (e.1 = k)) ps = some y := h
    rw [this]; rfl
theorem conP_lo (ps : List (Int × Pa)) (k : Int) : conP (loL ltI ps k) = loL ltI (conP ps) k ∧ conP (hiL ltI ps k) = hiL ltI (conP ps) k := by
  unfold loL hiL conP
  rw [List.filter_map, List.filter_map]
  exact ⟨rfl, rfl⟩
theorem conP_app (a b : List (Int × Pa)) : conP (a ++ b) = conP a ++ conP b := by simp [conP]
theorem ents_get (ps : List (Int × Pa)) (k : Int) : getL (entsI ps) k = (getL ps k).map (·.blk) := by
  unfold getL entsI
  rw [List.find?_map]
  cases h : List.find? ((fun e : Int × Nat => decide (e.1 = k)) ∘ fun p : Int × Pa => (p.1, p.2.blk)) ps with
  | none =>
    have : List.find? (fun e : Int × Pa => decide (e.1 = k)) ps = none := h
    rw [this]; rfl
  | some y =>
    have : List.find? (fun e : Int × Pa => decide (e.1 = k)) ps = some y := h
    rw [this]; rfl
theorem ents_lo (ps : List (Int × Pa)) (k : Int) : entsI (loL ltI ps k) = loL ltI (entsI ps) k ∧ entsI (hiL ltI ps k) = hiL ltI (entsI ps) k := by
  unfold loL hiL entsI
  rw [List.filter_map, List.filter_map]
  exact ⟨rfl, rfl⟩
/-- a pane is there: its block, where it stands -/
structure PaneAt (s s' : Sr) (k : Int) (A B : List (Int × Pa)) (p : Pa) : Prop where
  ps : s'.ps = A ++ (k, p) :: B
  sb : s'.sb = s.sb
  lv : s'.lv = s.lv
  ls : s'.ls = s.ls
  cA : conP A = loL ltI (conP s.ps) k
  cB : conP B = hiL ltI (conP s.ps) k
  L : p.L = (getL (conP s.ps) k).getD []
theorem pane_at (s : Sr) (k : Int) (hk0 : 0 ≤ k) (hk1 : k ≤ 9007199254740992) (w : World) (h : SerAt w s) (hl : s.ps.length < 100) :
    Calls Tryz.prog 37 #[.pointer (some ⟨s.sb, 1, none⟩), .int .i64 k] w fun e w' => ∃ s' A B p, e = .returned (.pointer (some ⟨p.blk, 0, none⟩)) ∧ PaneAt s s' k A B p ∧ SerAt w' s' ∧ Turn s.own w w' ∧ New s.own s'.own w := by
  have hsr := ents_srt h.srt
  have hle : (entsI s.ps).length = s.ps.length := by unfold entsI; simp
  have hcv : w.cell? ⟨s.sb, 1, none⟩ = some s.pv := (cell_of_row w s.sb 1 _ _ _ h.blk).trans rfl
  rcases cut_at14 stoI s.ps k h.srt with ⟨p, hg, hcut⟩ | ⟨hg, hcut⟩
  · have hge : getL (entsI s.ps) k = some p.blk := by rw [ents_get, hg]; rfl
    obtain ⟨q1, _⟩ := at_pos_some stoI hsr hge
    refine (atI_old s.sb 1 s.pv (entsI s.ps) s.O (by omega) k (posL ltI (entsI s.ps) k) (pos_iff stoI hsr k) p.blk q1 w hcv h.map).mono ?_
    rintro e w' ⟨rfl, hb⟩
    exact ⟨s, loL ltI s.ps k, hiL ltI s.ps k, p, rfl, ⟨hcut, rfl, rfl, rfl, (conP_lo _ _).1, (conP_lo _ _).2, by rw [conP_get, hg]; rfl⟩, h.below hb, Turn.of_below hb _, New.refl _ _⟩
  · have hge : getL (entsI s.ps) k = none := by rw [ents_get, hg]; rfl
    obtain ⟨q1, q2, q3⟩ := at_pos_none stoI hsr hge
    have hh : hereI (entsI s.ps) (posL ltI (entsI s.ps) k) k = false := by
      unfold hereI
      rw [q1]
      split
      · rename_i x hx
        have := hi_lt x (List.mem_of_head? hx)
        simp only [decide_eq_false_iff_not]
        rintro rfl
        rw [stoI.irr] at this; cases this
      · rfl
    refine (atI_new s.sb 1 #[s.lv, s.pv] TSer s.pv (entsI s.ps) s.O (by omega) k (posL ltI (entsI s.ps) k) (pos_le _ _) (pos_iff stoI hsr k) hh w h.blk rfl h.map h.sb_not).mono ?_
    rintro e w' ⟨N, hN, rfl, ⟨v', O', d1, d2, d3, d4⟩, d5⟩
    rw [q2, q3] at d2
    have hes : loL ltI (entsI s.ps) k ++ (k, N) :: hiL ltI (entsI s.ps) k = entsI (loL ltI s.ps k ++ (k, ⟨N, []⟩) :: hiL ltI s.ps k) := by
      rw [← (ents_lo s.ps k).1, ← (ents_lo s.ps k).2]; simp [entsI]
    rw [hes] at d2
    have hmem : ∀ e, e ∈ loL ltI s.ps k ∨ e ∈ hiL ltI s.ps k → e ∈ s.ps := fun e q => q.elim (fun r => (List.mem_filter.1 r).1) (fun r => (List.mem_filter.1 r).1)
    have hlt := h.lt
    refine ⟨{ s with pv := v', O := O', ps := loL ltI s.ps k ++ (k, ⟨N, []⟩) :: hiL ltI s.ps k }, loL ltI s.ps k, hiL ltI s.ps k, ⟨N, []⟩, rfl, ⟨rfl, rfl, rfl, rfl, (conP_lo _ _).1, (conP_lo _ _).2, by rw [conP_get, hg]; rfl⟩, ⟨by simpa using d1, row_keep14 h.lab (fun b hb => ?_), d2, fun e he => ?_, ?_, ?_, fun e he => ?_, ?_⟩, d3.mono (fun b hb => ?_), fun b hb => ?_⟩
    · have := h.lab_not h b hb
      refine d3.block b (h.lab_lt b hb) (fun q => this ?_)
      simp only [Sr.own, List.mem_cons, List.mem_append] at q ⊢
      rcases q with q | q
      · exact .inl q
      · exact .inr (.inl q)
    · have old : ∀ e, e ∈ s.ps → w'.heap[e.2.blk]? = some (.cells (clC e.2.L) TC (0, 0)) := fun e he => by
        obtain ⟨n1, n2⟩ := h.cell_not e he
        refine d3.at (fun q => ?_) (h.cells e he)
        rcases List.mem_cons.1 q with q | q
        · exact n1 q
        · exact n2 q
      rcases List.mem_append.1 he with he | he
      · exact old e (hmem e (.inl he))
      · rcases List.mem_cons.1 he with rfl | he
        · rw [clC_nil]; exact d5
        · exact old e (hmem e (.inr he))
    · exact srt_put stoI h.srt k ⟨N, []⟩
    · have : (loL ltI s.ps k).length + (hiL ltI s.ps k).length = s.ps.length := by
        have := congrArg List.length hcut
        rw [List.length_append] at this
        omega
      simp only [List.length_append, List.length_cons]
      omega
    · rcases List.mem_append.1 he with he | he
      · exact h.ok e (hmem e (.inl he))
      · rcases List.mem_cons.1 he with rfl | he
        · exact ⟨fun _ q => (nomatch q), by show 0 ≤ 100; omega, hk0, hk1⟩
        · exact h.ok e (hmem e (.inr he))
    · have hd := h.dis
      rw [hcut, List.map_append] at hd
      obtain ⟨e1, e2, e3⟩ := List.nodup_append.1 hd
      have hNn : ∀ e, e ∈ loL ltI s.ps k ∨ e ∈ hiL ltI s.ps k → e.2.blk ≠ N := fun e q r => by
        have := hlt e.2.blk (by simp only [Sr.own, List.mem_cons, List.mem_append, List.mem_map]; exact .inr (.inr ⟨e, hmem e q, rfl⟩))
        omega
      show (List.map (fun e : Int × Pa => e.2.blk) (loL ltI s.ps k ++ (k, ⟨N, []⟩) :: hiL ltI s.ps k)).Nodup
      rw [List.map_append, List.map_cons]
      refine List.nodup_append.2 ⟨e1, List.nodup_cons.2 ⟨fun q => ?_, e2⟩, fun a ha b hb => ?_⟩
      · obtain ⟨e, he, r⟩ := List.mem_map.1 q
        exact hNn e (.inr he) r
      · rcases List.mem_cons.1 hb with rfl | hb
        · obtain ⟨e, he, r⟩ := List.mem_map.1 ha
          exact fun x => hNn e (.inl he) (r.trans x)
        · exact e3 a ha b hb
    · simp only [Sr.own, List.mem_cons, List.mem_append] at hb ⊢
      rcases hb with hb | hb
      · exact .inl hb
      · exact .inr (.inl hb)
    · simp only [Sr.own, List.mem_cons, List.mem_append, List.mem_map] at hb ⊢
      rcases hb with hb | hb | ⟨e, he, hb⟩
      · exact .inl (.inl hb)
      · rcases d4 b hb with q | q
        · exact .inl (.inr (.inl q))
        · exact .inr q
      · rcases he with he | he
        · exact .inl (.inr (.inr ⟨e, hmem e (.inl he), hb⟩))
        · rcases he with rfl | he
          · exact .inr (by rw [← hb]; exact hN)
          · exact .inl (.inr (.inr ⟨e, hmem e (.inr he), hb⟩))
end Go.Proofs.YtedcdhngiofpjaaGreatDoor
/- store: a series found or made; a pane's block turned. -/
namespace Go.Proofs.YtedcdhngiofpjaaGreatDoor
open Go Go.Proofs Go.RowKit Go.Shelf
set_option maxRecDepth 100000
def clX (p : Pn) (h : List Int) : Array Value := (pnC p ++ h.map (Value.int .i64)).toArray
theorem clC_X (L : List Nm) : clC L = clX (ofR L) (histR (vals L)) := rfl
theorem clX_pane (p q : Pn) (h : List Int) : (((((((((clX p h).setIfInBounds 0 (.int .i64 q.c)).setIfInBounds 1 (.int .i64 q.h)).setIfInBounds 2 (.int .u64 q.l)).setIfInBounds 3 (.int .i64 q.mn)).setIfInBounds 4 (.int .i64 q.mx)).setIfInBounds 5 (.int .i64 q.t)).setIfInBounds 6 (.int .i64 q.s)).setIfInBounds 7 (.int .i64 q.q)).setIfInBounds 8 (.int .i64 q.v) = clX q h := by
  unfold clX pnC
  simp only [List.cons_append, List.nil_append, List.setIfInBounds_toArray, List.set_cons_zero, List.set_cons_succ]
theorem clX_put (p : Pn) (h : List Int) (i : Nat) (x : Int) : (clX p h).setIfInBounds (9 + i) (.int .i64 x) = clX p (h.set i x) := by
  unfold clX pnC
  rw [show 9 + i = i + 1 + 1 + 1 + 1 + 1 + 1 + 1 + 1 + 1 by omega]
  simp only [List.cons_append, List.nil_append, List.setIfInBounds_toArray, List.set_cons_succ, List.map_set]
theorem clX_at (p : Pn) (h : List Int) (i : Nat) (x : Int) (hx : h[i]? = some x) : (clX p h)[9 + i]? = some (.int .i64 x) := by
  unfold clX pnC
  rw [show 9 + i = i + 1 + 1 + 1 + 1 + 1 + 1 + 1 + 1 + 1 by omega]
  simp only [List.cons_append, List.nil_append, List.getElem?_toArray, List.getElem?_cons_succ, List.getElem?_map, hx, Option.map_some]
/-- the cells of a pane in its block -/
theorem clX_cells {w : World} {b : Nat} {p : Pn} {h : List Int} {T : TypeId} (hb : w.heap[b]? = some (.cells (clX p h) T (0, 0))) :
    (w.cell? ⟨b, 0, none⟩ = some (.int .i64 p.c) ∧ w.cell? ⟨b, 1, none⟩ = some (.int .i64 p.h) ∧ w.cell? ⟨b, 2, none⟩ = some (.int .u64 p.l) ∧ w.cell? ⟨b, 3, none⟩ = some (.int .i64 p.mn) ∧ w.cell? ⟨b, 4, none⟩ = some (.int .i64 p.mx) ∧ w.cell? ⟨b, 5, none⟩ = some (.int .i64 p.t) ∧ w.cell? ⟨b, 6, none⟩ = some (.int .i64 p.s) ∧ w.cell? ⟨b, 7, none⟩ = some (.int .i64 p.q) ∧ w.cell? ⟨b, 8, none⟩ = some (.int .i64 p.v)) ∧ (∀ j, w.frozen? ⟨b, j, none⟩ = false) :=
  ⟨⟨(cell_of_row w b 0 _ _ _ hb).trans rfl, (cell_of_row w b 1 _ _ _ hb).trans rfl, (cell_of_row w b 2 _ _ _ hb).trans rfl, (cell_of_row w b 3 _ _ _ hb).trans rfl, (cell_of_row w b 4 _ _ _ hb).trans rfl, (cell_of_row w b 5 _ _ _ hb).trans rfl, (cell_of_row w b 6 _ _ _ hb).trans rfl, (cell_of_row w b 7 _ _ _ hb).trans rfl, (cell_of_row w b 8 _ _ _ hb).trans rfl⟩, fun j => frozen_of_row w b j _ _ hb⟩
set_option maxHeartbeats 4000000 in
theorem hput14 (b : Nat) (p : Pn) (h : List Int) (v x : Int) (T : TypeId) (w : World) (hb : w.heap[b]? = some (.cells (clX p h) T (0, 0))) (hv : H64 v) (hx : h[bucketR v]? = some x) (hr : 0 ≤ x ∧ x ≤ 1125899906842624) :
    Calls Tryz.prog 40 #[.pointer (some ⟨b, 9, none⟩), .int .i64 v] w fun e w' => (∃ r, e = .returned r) ∧ w' = (w.setCell ⟨b, 9 + bucketR v, none⟩ (.int .i64 (x + 1))).drew := by
  have hk := bucketR_le v hv.2
  have HB := Lib.hid (fun W => bucket_any v hv W)
  have hc0 : w.drew.cell? ⟨b, 9 + bucketR v, none⟩ = some (.int .i64 x) := (cell_of_row w.drew b _ _ _ _ hb).trans (clX_at p h _ x hx)
  have hf0 : w.drew.frozen? ⟨b, 9 + bucketR v, none⟩ = false := frozen_of_row w.drew b _ _ _ hb
  clear hv hx hb
  generalize bucketR v = k at *
  go_enter Tryz.func40, Tryz.ntmps40
  go_region_with (first | (go_at_call 77; refine (HB.out _).mono ?_; rintro e w2 ⟨rfl, rfl⟩))
  all_goals
    go_end0
    refine ⟨⟨_, rfl⟩, ?_⟩
    rw [show IntKind.i64.wrap (x + 1) = x + 1 from by rw [IntKind.wrap_i64]; first | omega | exact wr64 (n := x + 1) (by omega) (by omega)]
theorem sget_ents (ss : List (List UInt8 × Sr)) (k : List UInt8) : getL (entsS ss) k = (getL ss k).map (·.sb) := by
  unfold getL entsS
  rw [List.find?_map]
  cases h : List.find? ((fun e : List UInt8 × Nat => decide (e.1 = k)) ∘ fun p : List UInt8 × Sr => (p.1, p.2.sb)) ss with
  | none =>
    have : List.find? (fun e : List UInt8 × Sr => decide (e.1 = k)) ss = none := h
    rw [this]; rfl
  | some y =>
    have : List.find? (fun e : List UInt8 × Sr => decide (e.1 = k)) ss = some y := h
    rw [this]; rfl
theorem slo_ents (ss : List (List UInt8 × Sr)) (k : List UInt8) : entsS (loL ltS ss k) = loL ltS (entsS ss) k ∧ entsS (hiL ltS ss k) = hiL ltS (entsS ss) k := by
  unfold loL hiL entsS
  rw [List.filter_map, List.filter_map]
  exact ⟨rfl, rfl⟩
theorem ser_at_old {S : Sto} {k : List UInt8} {s : Sr} (w : World) (h : StAt w S) (hg : getL S.ss k = some s) :
    Calls Tryz.prog 34 #[.pointer (some ⟨S.b, 1, none⟩), .string ⟨List.toArray k⟩] w fun e w' => e = .returned (.pointer (some ⟨s.sb, 0, none⟩)) ∧ Below w.heap.size w w' := by
  have hge : getL (entsS S.ss) k = some s.sb := by rw [sget_ents, hg]; rfl
  have hle : (entsS S.ss).length = S.ss.length := by unfold entsS; simp
  obtain ⟨q1, _⟩ := at_pos_some stoS (entsS_srt h.srt) hge
  exact atS_old S.b 1 S.v (entsS S.ss) S.O (by have := h.len; omega) k (posL ltS (entsS S.ss) k) (pos_iff stoS (entsS_srt h.srt) k) s.sb q1 w ((cell_of_row w S.b 1 _ _ _ h.blk).trans rfl) h.map
/-- a series has been made; it has no labels yet -/
structure Made (S : Sto) (k : List UInt8) (N : Nat) (v' : Value) (O' : List Nat) (w W : World) (lv : Value) : Prop where
  ge : w.heap.size ≤ N
  blk : W.heap[S.b]? = some (.cells #[.int .i64 S.grid, v', .int .i64 S.n] TSto (0, 0))
  map : MapS W v' (loL ltS (entsS S.ss) k ++ (k, N) :: hiL ltS (entsS S.ss) k) O'
  turn : Turn (S.b :: S.O) w W
  new : New S.O O' w
  ser : W.heap[N]? = some (.cells #[lv, .slice none 0 0] TSer (0, 0))
theorem ser_at_new {S : Sto} {k : List UInt8} (w : World) (h : StAt w S) (hg : getL S.ss k = none) :
    Calls Tryz.prog 34 #[.pointer (some ⟨S.b, 1, none⟩), .string ⟨List.toArray k⟩] w fun e w' => ∃ N v' O', e = .returned (.pointer (some ⟨N, 0, none⟩)) ∧ Made S k N v' O' w w' (.slice none 0 0) := by
  have hge : getL (entsS S.ss) k = none := by rw [sget_ents, hg]; rfl
  have hle : (entsS S.ss).length = S.ss.length := by unfold entsS; simp
  obtain ⟨q1, q2, q3⟩ := at_pos_none stoS (entsS_srt h.srt) hge
  have hh : hereS (entsS S.ss) (posL ltS (entsS S.ss) k) k = false := by
    unfold hereS
    rw [q1]
    split
    · rename_i x hx
      have := hi_lt x (List.mem_of_head? hx)
      simp only [decide_eq_false_iff_not]
      rintro rfl
      rw [stoS.irr] at this; cases this
    · rfl
  refine (atS_new S.b 1 #[.int .i64 S.grid, S.v, .int .i64 S.n] TSto S.v (entsS S.ss) S.O (by have := h.len; omega) k (posL ltS (entsS S.ss) k) (pos_le _ _) (pos_iff stoS (entsS_srt h.srt) k) hh w h.blk rfl h.map h.top_not.1).mono ?_
  rintro e w' ⟨N, hN, rfl, ⟨v', O', d1, d2, d3, d4⟩, d5⟩
  rw [q2, q3] at d2
  exact ⟨N, v', O', rfl, ⟨hN, by simpa using d1, d2, d3, d4, d5⟩⟩
theorem Made.lab {S : Sto} {k : List UInt8} {N : Nat} {v' : Value} {O' : List Nat} {w W W2 : World} {lv : Value} (h : Made S k N v' O' w W lv) (hS : StAt w S) (hb : Below W.heap.size W W2) (lv2 : Value) : Made S k N v' O' w (W2.setCell ⟨N, 0, none⟩ lv2) lv2 := by
  have hlt : ∀ {b : Nat} {o : Obj}, W.heap[b]? = some o → W2.heap[b]? = some o := fun q => (hb.block _ (Array.getElem?_eq_some_iff.1 q).1).trans q
  have hSl : S.b < w.heap.size := hS.lt _ (Sto.mem_own.2 (.inl rfl))
  have hOl : ∀ b ∈ S.O, b < w.heap.size := fun b q => hS.lt b (Sto.mem_own.2 (.inr (.inl q)))
  have hge := h.ge
  refine ⟨h.ge, (Below.heap_setCell _ _ _ _ (by dsimp only; omega)).trans (hlt h.blk), (h.map.below hb).keep (fun b q => Below.heap_setCell _ _ _ _ (fun e => ?_)), (h.turn.then_below hb).trans (Turn.set W2 N 0 lv2) (fun b q => .inr (by rw [List.mem_singleton.1 q]; exact hge)), h.new, by simpa using blk_set14 (hlt h.ser) 0 lv2⟩
  dsimp only at e
  subst e
  rcases h.map with ⟨_, ho, _⟩ | ⟨_, R, E, cap, ho, _, h3, h4⟩
  · rw [ho] at q; cases q
  · rw [ho] at q
    simp only [List.mem_cons, List.not_mem_nil, or_false] at q
    rcases q with rfl | rfl
    · have := h3.symm.trans h.ser
      simp [TLS, TSer] at this
    · obtain ⟨cur, q, _⟩ := h4
      have := q.symm.trans h.ser
      simp [TES, TSer] at this
/-- the series that was made, with its labels, among the others -/
theorem Made.done {S : Sto} {k : List UInt8} {N : Nat} {v' : Value} {O' : List Nat} {w W : World} {lv : Value} {zs : List SLab} (h : Made S k N v' O' w W lv) (hS : StAt w S) (hg : getL S.ss k = none) (hk : k = textL zs) (hc : checkR zs = 0) (hz : zs ≠ []) (hl : S.ss.length < 100)
    (hr : W.ownsRow 0 TLab 2 lv zs.length (labC zs)) :
    StAt W { S with v := v', O := O', ss := loL ltS S.ss k ++ (k, ⟨N, lv, zs, .slice none 0 0, [], []⟩) :: hiL ltS S.ss k } ∧ New S.own ({ S with v := v', O := O', ss := loL ltS S.ss k ++ (k, ⟨N, lv, zs, .slice none 0 0, [], []⟩) :: hiL ltS S.ss k } : Sto).own w := by
  have hmem : ∀ e, e ∈ loL ltS S.ss k ∨ e ∈ hiL ltS S.ss k → e ∈ S.ss ∧ e.1 ≠ k := fun e q => by
    refine ⟨q.elim (fun r => (List.mem_filter.1 r).1) (fun r => (List.mem_filter.1 r).1), fun x => ?_⟩
    rcases q with r | r
    · have := lo_lt e r; rw [x, stoS.irr] at this; cases this
    · have := hi_lt e r; rw [x, stoS.irr] at this; cases this
  have cl : ∀ e, e ∈ loL ltS S.ss k ++ (k, (⟨N, lv, zs, .slice none 0 0, [], []⟩ : Sr)) :: hiL ltS S.ss k → e = (k, ⟨N, lv, zs, .slice none 0 0, [], []⟩) ∨ (e ∈ S.ss ∧ e.1 ≠ k) := fun e q => by
    rcases List.mem_append.1 q with q | q
    · exact .inr (hmem e (.inl q))
    · rcases List.mem_cons.1 q with rfl | q
      · exact .inl rfl
      · exact .inr (hmem e (.inr q))
  have hge := h.ge
  obtain ⟨t1, t2⟩ := hS.top_not
  have hown : ∀ b ∈ (⟨N, lv, zs, .slice none 0 0, [], []⟩ : Sr).own, b = N := fun b q => by simpa [Sr.own] using q
  refine ⟨⟨h.blk, ?_, fun e he => ?_, fun e he => ?_, srt_put stoS hS.srt k _, ?_, fun e he e' he' hne b hb hb' => ?_⟩, fun b hb => ?_⟩
  · have : entsS (loL ltS S.ss k ++ (k, ⟨N, lv, zs, .slice none 0 0, [], []⟩) :: hiL ltS S.ss k) = loL ltS (entsS S.ss) k ++ (k, N) :: hiL ltS (entsS S.ss) k := by
      rw [← (slo_ents S.ss k).1, ← (slo_ents S.ss k).2]; simp [entsS]
    show MapS W v' (entsS (loL ltS S.ss k ++ (k, ⟨N, lv, zs, .slice none 0 0, [], []⟩) :: hiL ltS S.ss k)) O'
    rw [this]
    exact h.map
  · rcases cl e he with rfl | ⟨q1, q2⟩
    · exact ⟨h.ser, hr, .inl ⟨rfl, rfl, none, 0, rfl⟩, fun _ q => (nomatch q), List.Pairwise.nil, by show 0 ≤ 100; omega, fun _ q => (nomatch q), List.nodup_nil⟩
    · refine (hS.ser e q1).turn h.turn (fun b hb hm => ?_) (fun b hb hm => ?_)
      · rcases List.mem_cons.1 hm with rfl | hm
        · exact (t2 e q1).1 hb
        · exact (t2 e q1).2 b hm hb
      · refine hS.lab_not hS e q1 b hb (Sto.mem_own.2 ?_)
        rcases List.mem_cons.1 hm with rfl | hm
        · exact .inl rfl
        · exact .inr (.inl hm)
  · rcases cl e he with rfl | ⟨q1, q2⟩
    · exact ⟨hk, hc, hz⟩
    · exact hS.key e q1
  · rcases cut_at14 stoS S.ss k hS.srt with ⟨_, q, _⟩ | ⟨_, q⟩
    · rw [hg] at q; cases q
    · have := congrArg List.length q
      simp only [List.length_append, List.length_cons] at this ⊢
      omega
  · rcases cl e he with rfl | ⟨q1, q2⟩ <;> rcases cl e' he' with rfl | ⟨r1, r2⟩
    · exact hne rfl
    · have := (hS.ser e' r1).lt b hb'
      rw [hown b hb] at this; omega
    · have := (hS.ser e q1).lt b hb
      rw [hown b hb'] at this; omega
    · exact hS.dis e q1 e' r1 hne b hb hb'
  · rcases Sto.mem_own.1 hb with q | q | ⟨e, q, r⟩
    · exact .inl (Sto.mem_own.2 (.inl q))
    · rcases h.new b q with x | x
      · exact .inl (Sto.mem_own.2 (.inr (.inl x)))
      · exact .inr x
    · rcases cl e q with rfl | ⟨q1, _⟩
      · exact .inr (by rw [hown b r]; exact hge)
      · exact .inl (Sto.mem_own.2 (.inr (.inr ⟨e, q1, r⟩)))
end Go.Proofs.YtedcdhngiofpjaaGreatDoor
